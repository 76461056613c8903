"""Facts and sayings as texts: read and shown; and whether a plan has all that a saying speaks of."""

from roadsall.errors import NoFact, NoText
from roadsall.facts import HAND_PARTS, KNOWING, parts_of
from roadsall.pieces import pieces_of
from roadsall.words import names_in, shown_condition

# How firmly a word holds what stands beside it, as in conditions; nothing is put together across a bracket.
BRACKET_LEVEL = 0
OR_LEVEL = 1
NOT_LEVEL = 3
LEVELS = {"or": 1, "and": 2, "not": 3}


class FactReader:
    # Brackets may stand thousands deep in a text: what waits for its other side is kept in lists, not in calls.

    def __init__(self, text):
        self.pieces = pieces_of(text)
        self.spot = 0
        self.trees = []
        self.marks = []
        self.wanted = True

    def next_kind(self):
        return self.pieces[self.spot][0]

    def take(self, kind):
        found, value, spot = self.pieces[self.spot]
        if found != kind:
            raise NoText(spot)
        self.spot += 1
        return value

    def taken(self, kind):
        if self.next_kind() != kind:
            return False
        self.spot += 1
        return True

    def whole_saying(self):
        if self.taken("never"):
            return ("never", self.fact_up_to("end"))
        if self.taken("always"):
            kind = "always can" if self.taken("can") else "always"
            return (kind, self.fact_up_to("end"))
        if self.taken("at"):
            self.take("last")
            return ("at last", self.fact_up_to("end"))
        if self.taken("whenever"):
            return self.two_facts("whenever", "at", "last")
        return self.two_facts("ahead", "ahead", "of")

    def two_facts(self, kind, first, second):
        self.take("[")
        one = self.fact_up_to("]")
        self.take(first)
        self.take(second)
        self.take("[")
        other = self.fact_up_to("]")
        self.take("end")
        return (kind, one, other)

    def fact_up_to(self, end):
        self.wanted = True
        while self.wanted or self.goes_on():
            if self.wanted:
                self.read_part()
            elif self.next_kind() in ("and", "or"):
                self.read_joint(self.next_kind())
            else:
                self.close()
        self.take(end)
        return self.trees.pop()

    def goes_on(self):
        if self.next_kind() in ("and", "or"):
            return True
        self.fold(OR_LEVEL)
        return len(self.marks) > 0

    def read_part(self):
        if self.next_kind() in ("not", "["):
            self.marks.append((self.next_kind(), ""))
            self.spot += 1
        elif self.taken("dry"):
            self.keep_part(("dry",))
        elif self.taken("letters"):
            self.read_letters()
        elif self.taken("each"):
            self.open_knowing("each knows", self.take("name"))
        elif self.next_kind() in HAND_PARTS:
            self.read_hand_part(self.take(self.next_kind()))
        else:
            self.take("true")
            self.keep_part(("true",))

    def read_letters(self):
        one = self.take("name")
        self.take("to")
        other = self.take("name")
        mark = self.take("name") if self.next_kind() == "name" else ""
        self.keep_part(("letters", one, other, mark) + self.read_amount())

    def read_hand_part(self, kind):
        family = self.take("name")
        if kind == "some" and self.next_kind() == "knows":
            self.open_knowing("some knows", family)
            return
        room = self.take("name") if self.taken("at") else ""
        condition = self.take("when") if self.next_kind() == "when" else ("true",)
        amount = self.read_amount() if kind == "many" else ()
        self.keep_part((kind, family, room, condition) + amount)

    def read_amount(self):
        word = self.take("compared")
        return (word, self.take("number"))

    def open_knowing(self, kind, family):
        self.take("knows")
        self.take("[")
        self.marks.append((kind, family))

    def keep_part(self, part):
        self.trees.append(part)
        self.wanted = False

    def read_joint(self, word):
        self.fold(LEVELS[word])
        self.take(word)
        self.marks.append((word, ""))
        self.wanted = True

    def close(self):
        self.take("]")
        kind, family = self.marks.pop()
        if kind in KNOWING:
            self.trees.append((kind, family, self.trees.pop()))

    def fold(self, level):
        while self.marks and LEVELS.get(self.marks[-1][0], BRACKET_LEVEL) >= level:
            kind = self.marks.pop()[0]
            other = self.trees.pop()
            if kind == "not":
                self.trees.append(("not", other))
            else:
                self.trees.append((kind, self.trees.pop(), other))


def read_fact(text):
    return FactReader(text).fact_up_to("end")


def read_saying(text):
    return FactReader(text).whole_saying()


def shown_saying(saying):
    kind = saying[0]
    one = shown_fact(saying[1])
    if kind not in ("ahead", "whenever"):
        return f"{kind} {one}"
    other = shown_fact(saying[2])
    if kind == "ahead":
        return f"[{one}] ahead of [{other}]"
    return f"whenever [{one}] at last [{other}]"


def shown_fact(fact):
    kind = fact[0]
    if kind in ("true", "dry"):
        return kind
    if kind == "not":
        part = shown_from_level(fact[1], NOT_LEVEL)
        return f"not {part}"
    if kind in ("and", "or"):
        one = shown_from_level(fact[1], LEVELS[kind])
        # The left side is put together first, so on the right the same level needs its brackets.
        other = shown_from_level(fact[2], LEVELS[kind] + 1)
        return f"{one} {kind} {other}"
    if kind in KNOWING:
        word = kind.partition(" ")[0]
        name = fact[1]
        inner = shown_fact(fact[2])
        return f"{word} {name} knows [{inner}]"
    if kind == "letters":
        return shown_letters(fact)
    return shown_hand_part(fact)


def shown_from_level(fact, level):
    text = shown_fact(fact)
    return f"[{text}]" if LEVELS.get(fact[0], NOT_LEVEL) < level else text


def shown_letters(fact):
    one, other, mark, word, number = fact[1:]
    marked = f" {mark}" if mark != "" else ""
    return f"letters {one} to {other}{marked} {word} {number}"


def shown_hand_part(fact):
    kind, family, room, condition = fact[:4]
    text = f"{kind} {family}"
    if room != "":
        text += f" at {room}"
    if condition != ("true",):
        inner = shown_condition(condition)
        text += f" when [{inner}]"
    if kind == "many":
        word, number = fact[4:]
        text += f" {word} {number}"
    return text


def check_saying(plan, saying):
    families = dict([(family[0], family) for family in plan[0]])
    for fact in saying[1:]:
        for part in parts_of(fact):
            check_part(families, part)


def check_part(families, part):
    names = []
    if part[0] == "letters":
        names = part[1:3]
    elif part[0] in HAND_PARTS or part[0] in KNOWING:
        names = part[1:2]
    if not all([name in families for name in names]):
        raise NoFact()
    if part[0] in HAND_PARTS:
        check_room_and_cells(families[part[1]], part[2], part[3])


def check_room_and_cells(family, room, condition):
    cells = [cell[0] for cell in family[3]]
    if room != "" and room not in family[2]:
        raise NoFact()
    if not all([name in cells for name in names_in(condition)]):
        raise NoFact()
