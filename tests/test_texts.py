import random
import re
import unittest

from roadsall.errors import NoFact, NoText, RoadError
from roadsall.plans import read_plan
from roadsall.texts import check_saying, read_fact, read_saying, shown_fact, shown_saying
from roadsall.words import read_condition
from oracle import chance_condition, chance_plan
from readings import CONDITION_WORDS, FACT_WORDS, read_or_none
from samples import LOCK, every, many, small_plan, some

TRUE = ("true",)
DRY = ("dry",)
COMPARISONS = ("=", "!=", "<", "<=", ">", ">=")
PAIRS = [
    ("true", TRUE), ("dry", DRY), ("not dry", ("not", DRY)), ("not not dry", ("not", ("not", DRY))),
    ("dry and true", ("and", DRY, TRUE)), ("dry or true", ("or", DRY, TRUE)),
    ("some f", some("f")), ("all f", every("f")), ("some f at r", some("f", "r")), ("all f at r", every("f", "r")),
    ("some f when [a = 1]", some("f", "", "a = 1")), ("all f at r when [a < b + 1]", every("f", "r", "a < b + 1")),
    ("some f at r when [a = 1 or not [b = 2 and true]]", some("f", "r", "a = 1 or not [b = 2 and true]")),
    ("many f = 0", many("f", "", "=", 0)), ("many f at r >= 999", many("f", "r", ">=", 999)),
    ("many f when [(a + 1) * 2 > 3] != 4", many("f", "", "!=", 4, "(a + 1) * 2 > 3")),
    ("many f at r when [not true] < 10", many("f", "r", "<", 10, "not true")),
    ("letters f to g = 1", ("letters", "f", "g", "", "=", 1)),
    ("letters f to f m <= 2", ("letters", "f", "f", "m", "<=", 2)),
    ("some f knows [dry]", ("some knows", "f", DRY)), ("each f knows [dry or true]",
    ("each knows", "f", ("or", DRY, TRUE))),
    ("some f knows [each g knows [some f knows [true]]]",
     ("some knows", "f", ("each knows", "g", ("some knows", "f", TRUE)))),
    ("not some f knows [dry] and dry", ("and", ("not", ("some knows", "f", DRY)), DRY)),
    ("some f or all f at r and many g > 1", ("or", some("f"), ("and", every("f", "r"), many("g", "", ">", 1)))),
]


def families_in(chance):
    return chance.choice(["f", "g", "asker", "abcdefghij", "it", "row", "step", "from", "ore", "nota", "drys",
    "knowsx"])


def chance_fact(chance, depth):
    """Any fact, with names of all kinds and conditions of some depth."""
    kinds = ["true", "dry", "some", "all", "many", "letters"]
    if depth > 0:
        kinds = kinds[2:] + ["not", "and", "or", "and", "or", "some knows", "each knows"]
    kind = chance.choice(kinds)
    if kind in ("true", "dry"):
        return (kind,)
    if kind == "not":
        return (kind, chance_fact(chance, depth - 1))
    if kind in ("and", "or"):
        return (kind, chance_fact(chance, depth - 1), chance_fact(chance, depth - 1))
    if kind in ("some knows", "each knows"):
        return (kind, families_in(chance), chance_fact(chance, depth - 1))
    amount = (chance.choice(COMPARISONS), chance.choice([0, 1, 9, 10, 99, 100, 999]))
    if kind == "letters":
        return (kind, families_in(chance), families_in(chance), chance.choice(["", families_in(chance)])) + amount
    names = ["a", "dry", "at", "when", "never", "knows"]
    condition = chance_condition(chance, names)
    if chance.random() < 0.5:
        condition = (chance.choice(["and", "or"]), ("not", condition), chance_condition(chance, names))
    part = (kind, families_in(chance), chance.choice(["", families_in(chance)]), condition)
    return part + amount if kind == "many" else part


def chance_saying(chance, depth):
    kind = chance.choice(["never", "always", "ahead", "at last", "whenever", "always can"])
    return (kind,) + tuple(chance_fact(chance, depth) for _ in range(2 if kind in ("ahead", "whenever") else 1))


class ShownTest(unittest.TestCase):
    def test_facts(self):
        for text, fact in PAIRS:
            self.assertEqual(shown_fact(fact), text)
            self.assertEqual(read_fact(text), fact)

    def test_sayings(self):
        for text, fact in PAIRS:
            for shown, saying in [(f"never {text}", ("never", fact)), (f"always {text}", ("always", fact)),
                                  (f"[{text}] ahead of [dry]", ("ahead", fact, DRY)),
                                  (f"[true] ahead of [{text}]", ("ahead", TRUE, fact)),
                                  (f"at last {text}", ("at last", fact)),
                                  (f"whenever [{text}] at last [dry]", ("whenever", fact, DRY)),
                                  (f"whenever [true] at last [{text}]", ("whenever", TRUE, fact)),
                                  (f"always can {text}", ("always can", fact))]:
                self.assertEqual(shown_saying(saying), shown)
                self.assertEqual(read_saying(shown), saying)

    def test_brackets_just_where_they_are_needed(self):
        a, b, c = some("a"), some("b"), some("c")
        for text, fact in [
            ("some a and some b and some c", ("and", ("and", a, b), c)),
            ("some a and [some b and some c]", ("and", a, ("and", b, c))),
            ("some a or some b or some c", ("or", ("or", a, b), c)),
            ("some a or [some b or some c]", ("or", a, ("or", b, c))),
            ("some a or some b and some c", ("or", a, ("and", b, c))),
            ("[some a or some b] and some c", ("and", ("or", a, b), c)),
            ("some a and [some b or some c]", ("and", a, ("or", b, c))),
            ("some a and some b or some c", ("or", ("and", a, b), c)),
            ("not [some a and some b]", ("not", ("and", a, b))), ("not [some a or some b]", ("not", ("or", a, b))),
            ("not some a and some b", ("and", ("not", a), b)), ("some a and not some b", ("and", a, ("not", b))),
            ("not not some a or not some b", ("or", ("not", ("not", a)), ("not", b))),
            ("each f knows [some a] and some b", ("and", ("each knows", "f", a), b)),
            ("some b or [some a or each f knows [some a or some b]]",
            ("or", b, ("or", a, ("each knows", "f", ("or", a, b))))),
            ("[[some a or some b] and some c or some a] and some b", ("and", ("or", ("and", ("or", a, b), c), a), b)),
        ]:
            self.assertEqual(shown_fact(fact), text)
            self.assertEqual(read_fact(text), fact)

    def test_by_chance(self):
        for seed in range(1500):
            chance = random.Random(seed)
            fact = chance_fact(chance, chance.choice([0, 1, 2, 3]))
            text = shown_fact(fact)
            self.assertEqual(read_fact(text), fact, text)
            self.assertEqual(read_or_none(text, "fact"), fact, text)
            self.assertNotRegex(text, r"  |^ | $|\[ | \]|when \[true\]")
            saying = chance_saying(chance, 2)
            text = shown_saying(saying)
            self.assertEqual(read_saying(text), saying, text)
            self.assertEqual(read_or_none(text, "saying"), saying, text)

    def test_each_bracket_is_needed(self):
        # Without any one pair of brackets that isn't part of when, knows, ahead or whenever, another tree is read.
        for seed in range(400):
            text = shown_fact(chance_fact(random.Random(seed), 3))
            for place, sign in enumerate(text):
                if sign == "[" and not re.search("(when|knows) $", text[:place]) and not within_condition(text, place):
                    end = place + matching(text[place:])
                    bare = text[:place] + text[place + 1:end] + text[end + 1:]
                    self.assertNotEqual(read_or_none(bare, "fact"), read_fact(text), text)

    def test_nothing_handed_in_is_changed(self):
        for text, fact in PAIRS:
            self.assertEqual(read_fact(text), read_fact(text))
            self.assertEqual(shown_fact(fact), shown_fact(fact))


def matching(text):
    depth = 0
    for place, sign in enumerate(text):
        depth += {"[": 1, "]": -1}.get(sign, 0)
        if depth == 0:
            return place


def within_condition(text, place):
    return any(found.end() - 1 < place < found.end() - 1 + matching(text[found.end() - 1:])
               for found in re.finditer(r"when \[", text))


class ReadTest(unittest.TestCase):
    def refused(self, read, *texts):
        for text in texts:
            with self.assertRaises(NoText, msg=text[:200]) as caught:
                read(text)
            self.assertIsInstance(caught.exception, RoadError)
            self.assertIsInstance(caught.exception.place, int)

    def test_blanks(self):
        for text, fact in [
            ("  dry  ", DRY), ("not[dry]", ("not", DRY)), ("[dry]and[true]", ("and", DRY, TRUE)),
            ("not   not dry", ("not", ("not", DRY))),
            ("many f<3", many("f", "", "<", 3)), ("many f at r<=3", many("f", "r", "<=", 3)),
            ("many  f  at  r  !=  3 ", many("f", "r", "!=", 3)),
            ("some f when[a=1]", some("f", "", "a = 1")), ("some f when   [  a  =  1  ]  ", some("f", "", "a = 1")),
            ("many f when[a=1]>0", many("f", "", ">", 0, "a = 1")),
            ("letters f to g m>0", ("letters", "f", "g", "m", ">", 0)),
            ("letters f to g>0", ("letters", "f", "g", "", ">", 0)), ("some f knows[dry]", ("some knows", "f", DRY)),
            ("each f knows [ [ dry ] ]", ("each knows", "f", DRY)), ("[[[dry]]]", DRY),
            ("[dry]or dry", ("or", DRY, DRY)),
            ("some f when [true]", some("f")), ("all f at r when [[true]]", every("f", "r")), ("[some f]", some("f")),
            ("not [some f] and [[dry] or [dry]]", ("and", ("not", some("f")), ("or", DRY, DRY))),
        ]:
            self.assertEqual(read_fact(text), fact, text)
        for text, saying in [
            ("never[dry]", ("never", DRY)), ("  always   dry ", ("always", DRY)),
            ("[dry]ahead of[dry]", ("ahead", DRY, DRY)),
            ("[ dry ]  ahead  of  [ dry ]", ("ahead", DRY, DRY)), ("[[dry]] ahead of [[[dry]]]", ("ahead", DRY, DRY)),
            ("at   last[dry]", ("at last", DRY)), ("whenever[dry]at last[dry]", ("whenever", DRY, DRY)),
            ("always  can  dry", ("always can", DRY)),
            ("always can[dry]", ("always can", DRY)), ("always [dry] and dry", ("always", ("and", DRY, DRY))),
            ("never dry or dry", ("never", ("or", DRY, DRY))), ("at last not dry", ("at last", ("not", DRY))),
        ]:
            self.assertEqual(read_saying(text), saying, text)

    def test_no_facts(self):
        self.refused(read_fact, "", " ", "f", "dry dry", "drydry", "not", "and", "dry and", "dry or", "or dry",
        "and dry", "[dry", "dry]", "[]",
                     "[ ]", "][", "dry true", "nott dry", "dry andtrue", "dry and and dry", "dry not dry", "Dry",
                     "dry.", "dry\n", "\ndry", "dry\t",
                     "not dry]", "[dry]]", "[[dry]", "dry [dry]", "[dry] [dry]", "[dry] not", "never dry", "(dry)",
                     "1 = 1", "a = 1", "1", "=",
                     "true or", "dry, dry", "[dry or]", "[or dry]", "dry=1")

    def test_no_hand_parts(self):
        self.refused(read_fact, "some", "all", "some at r", "some f at", "some f at r at s", "some f when",
        "some f when a = 1", "some f when z [a = 1]", "some f when []",
                     "some f when [a]", "some f when [a = 1", "some f when a = 1]", "some f when [a = 1]]",
                     "some f when [[a = 1]", "some f when [a = ]",
                     "some f when [dry]", "some f when [some g]", "some f when [a = 1] at r",
                     "some f when [a = 1] when [a = 1]", "some f f", "some f r",
                     "some F", "some f1", "some abcdefghijk", "some f at abcdefghijk", "some f = 1", "all f < 1",
                     "some 1", "some [f]", "some f at [r]",
                     "some f when (a = 1)", "somef", "some f atr", "some f whenx [a = 1]", "all", "all f knows [dry]",
                     "some f when [a = 1000]",
                     "some f when [a = 01]", "some f when [a = 1] [dry]", "some f when [a = 1]and[",
                     "some f when [] a = 1]", "some f when] a = 1 [")

    def test_no_numbers(self):
        self.refused(read_fact, "many", "many f", "many f =", "many f 1", "many f = a", "many f = -1", "many f = 01",
        "many f = 1000", "many f = 00",
                     "many f == 1", "many f ! = 1", "many f < = 1", "many f => 1", "many f <> 1", "many f = 1 1",
                     "many f = 1 = 1", "many f = (1)",
                     "many f = 1 at r", "many f at r", "many f = 1 when [a = 1]", "many f when [a = 1]",
                     "many f knows [dry]", "many f=1dry",
                     "many f = 1and dry", "many f = 1 + 1", "many f + 1 = 1", "many f = [1]", "many = 1", "manyf = 1",
                     "many f1 = 1", "many f ! 1")

    def test_no_letters(self):
        self.refused(read_fact, "letters", "letters f", "letters f to", "letters f to g", "letters f g = 1",
        "letters f to g m", "letters f to g m n = 1",
                     "letters f to g =", "letters f to g m = ", "letters to g = 1", "letters f to = 1",
                     "letters f to g m 1", "letters f to g at r = 1",
                     "letters f to g when [a = 1] = 1", "lettersf to g = 1", "letters f tog = 1",
                     "letters f to g M = 1", "letters f to g m = 1000")

    def test_no_knowing(self):
        self.refused(read_fact, "each", "each f", "each f knows", "each f knows dry", "each f knows []",
        "each f knows [dry", "each knows [dry]",
                     "some f knows", "some f knows dry", "some f knows [dry]]", "some f at r knows [dry]",
                     "some f knows [dry] at r", "each f at r",
                     "each f when [a = 1]", "each f = 1", "some knows [dry]", "some f know [dry]",
                     "some f knows knows [dry]", "some f knows [dry] [dry]",
                     "each f dry", "each f knows [a = 1]", "eachf knows [dry]", "each f g knows [dry]",
                     "some f knows (dry)")

    def test_no_sayings(self):
        self.refused(read_saying, "", " ", "dry", "never", "always", "always can", "at last", "at", "last dry",
        "whenever", "can dry", "never never dry",
                     "at dry", "at last last dry", "always can can dry", "never dry dry", "[dry]", "[dry] ahead",
                     "[dry] ahead of", "[dry] ahead of dry",
                     "dry ahead of dry", "dry ahead of [dry]", "[dry] ahead [dry]", "[dry] of [dry]", "ahead of [dry]",
                     "[] ahead of [dry]",
                     "[dry] ahead of []", "[dry] ahead of [dry] dry", "[dry] ahead of [dry]]", "[[dry] ahead of [dry]",
                     "[dry] or [dry] ahead of [dry]",
                     "[dry] ahead of [dry] or [dry]", "[dry] ahead of [dry] ahead of [dry]",
                     "whenever dry at last dry", "whenever [dry]",
                     "whenever [dry] at last dry", "whenever [dry] at last", "whenever [dry] last [dry]",
                     "whenever [dry] at [dry]", "whenever dry at last [dry]",
                     "whenever [dry] at last [dry] and dry", "whenever [dry] ahead of [dry]", "[dry] at last [dry]",
                     "Never dry", "neverdry", "never dry\n",
                     "atlast dry", "alwayscan dry", "[dry] aheadof [dry]", "never [dry", "never dry]", "never, dry",
                     "not never dry", "[never dry]",
                     "never ahead", "always at last dry", "whenever [dry] at last [dry",
                     "whenever [never dry] at last [dry]")

    def test_names_of_the_texts_own_words(self):
        for word in FACT_WORDS:
            self.refused(read_fact, f"some {word}", f"some f at {word}", f"all {word} at r", f"many {word} = 1",
            f"many f at {word} = 1",
                         f"letters {word} to g = 1", f"letters f to {word} = 1", f"letters f to g {word} = 1",
                         f"some {word} knows [dry]",
                         f"each {word} knows [dry]")
            if word not in CONDITION_WORDS:
                # In conditions they are names like others.
                self.assertEqual(read_fact(f"some f when [{word} = 1]"), some("f", "", f"{word} = 1"))
        for name in ["folded", "it", "ory", "nots", "o", "t", "atx", "ofs", "candy", "lasts", "row", "heap", "family"]:
            self.assertEqual(read_fact(f"letters {name} to {name} {name} = 1"), ("letters", name, name, name, "=", 1))
            self.assertEqual(read_fact(f"some {name} at {name}"), some(name, name))

    def test_bent_texts(self):
        found = {True: 0, False: 0}
        for seed in range(1000):
            chance = random.Random(seed)
            text = shown_saying(chance_saying(chance, chance.choice([0, 1, 2])))
            for _ in range(12):
                bent = chance.choice([bent_sign, bent_word])(chance, text)
                tree = read_or_none(bent, "saying")
                found[tree is None] += 1
                if tree is None:
                    self.refused(read_saying, bent)
                else:
                    self.assertEqual(read_saying(bent), tree, bent)
                fact = bent.partition(" ")[2]
                if read_or_none(fact, "fact") is None:
                    self.refused(read_fact, fact)
                else:
                    self.assertEqual(read_fact(fact), read_or_none(fact, "fact"), fact)
        self.assertGreater(min(found.values()), 1000)

    def test_blanks_and_brackets_that_are_not_needed(self):
        for seed in range(500):
            chance = random.Random(seed)
            saying = chance_saying(chance, 2)
            self.assertEqual(read_saying(spaced(chance, shown_saying(saying))), saying)
            fact = chance_fact(chance, 3)
            self.assertEqual(read_fact(spaced(chance, bracketed(chance, fact))), fact)

    def test_thousands_of_brackets(self):
        self.assertEqual(read_fact("[" * 2500 + "dry" + "]" * 2500), DRY)
        self.assertEqual(read_saying("never " + "[" * 2500 + "dry" + "]" * 2500), ("never", DRY))
        self.assertEqual(read_fact("some f when [" + "[" * 2500 + "a = 1" + "]" * 2501), some("f", "", "a = 1"))
        self.refused(read_fact, "[" * 3000, "[" * 2500 + "dry" + "]" * 2499, "[" * 2500 + "dry" + "]" * 2501,
        "not " * 1500,
                     "some f knows [" * 400, "some f when [" * 400, "some f when " + "[" * 3000)


def bent_sign(chance, text):
    place = chance.randrange(len(text))
    sign = chance.choice("abdfrst 01[]=<>!+(-x")
    return chance.choice([text[:place] + text[place + 1:], text[:place] + sign + text[place + 1:],
    text[:place] + sign + text[place:]])


def bent_word(chance, text):
    words = re.findall("[a-z]+|[0-9]+|[^a-z0-9]+", text)
    place = chance.randrange(len(words))
    new = chance.choice(FACT_WORDS + ["f", "0", "7", "=", "[", "]", ""])
    return "".join(words[:place] + [new] + words[place + 1:])


def spaced(chance, text):
    """Blanks more, and fewer where none is needed."""
    text = re.sub(r"(?<=[\[\]=<>]) | (?=[\[\]=<>!])", lambda found: " " * chance.choice([0, 1, 3]), text)
    return " " * chance.choice([0, 2]) + text.replace(" ", " " * chance.choice([1, 2])) + " " * chance.choice([0, 1])


def bracketed(chance, fact):
    """The text with brackets around many a part."""
    if fact[0] == "not":
        text = "not " + bracketed(chance, fact[1])
    elif fact[0] in ("and", "or"):
        text = f"{bracketed(chance, fact[1])} {fact[0]} {bracketed(chance, fact[2])}"
    elif fact[0] in ("some knows", "each knows"):
        text = f"{fact[0].split()[0]} {fact[1]} knows [{bracketed(chance, fact[2])}]"
    else:
        text = shown_fact(fact)
    return f"[{text}]" if fact[0] in ("not", "and", "or") or chance.random() < 0.3 else text


class CheckTest(unittest.TestCase):
    def sayings(self, fact):
        yield from [("never", fact), ("always", fact), ("at last", fact), ("always can", fact), ("ahead", fact, TRUE),
        ("ahead", TRUE, fact),
                    ("whenever", fact, TRUE), ("whenever", TRUE, fact)]

    def within(self, fact):
        yield from [fact, ("not", fact), ("and", TRUE, fact), ("and", fact, TRUE), ("or", fact, TRUE),
        ("or", TRUE, fact),
                    ("some knows", "asker", fact), ("each knows", "server", ("not", fact))]

    def test_all_is_there(self):
        plan = small_plan()
        for fact in [TRUE, DRY, some("asker"), every("server", "busy"),
                     many("asker", "idle", "=", 7, "tries + last > 1"), some("server", "", "held = 999"),
                     ("letters", "asker", "server", "ask", "=", 1),
                     ("letters", "server", "server", "nothing", "=", 999),
                     ("letters", "asker", "asker", "", "=", 1), ("some knows", "server", some("asker", "waiting"))]:
            for inner in self.within(fact):
                for saying in self.sayings(inner):
                    self.assertIsNone(check_saying(plan, saying))

    def test_what_lacks(self):
        plan = small_plan()
        for fact in [some("nobody"), every("ask"), some("asker", "busy"), every("server", "idle"),
                     some("asker", "", "held = 1"),
                     some("server", "", "tries = 1"), every("asker", "idle", "tries = 1 and missing = 2"),
                     some("server", "", "guest = 1"),
                     some("server", "ready", "it = 1"), some("asker", "", "not [tries = 1 or 2 * (x + 1) < 2]"),
                     many("nobody", "", "=", 1),
                     many("asker", "ready", "=", 1), many("server", "busy", "=", 1, "last = 1"),
                     ("letters", "nobody", "server", "", "=", 1),
                     ("letters", "asker", "nobody", "ask", "=", 1), ("some knows", "nobody", TRUE),
                     ("each knows", "ready", TRUE),
                     some("idle"), some("asker", "asker"), some("asker", "tries"), some("server", "", "server = 1"),
                     some("server", "", "busy = 0")]:
            for inner in self.within(fact):
                for saying in self.sayings(inner):
                    with self.assertRaises(NoFact) as caught:
                        check_saying(plan, saying)
                    self.assertIsInstance(caught.exception, RoadError)

    def test_nothing_is_changed(self):
        plan = read_plan(LOCK)
        check_saying(plan, ("never", some("f", "in")))
        self.assertRaises(NoFact, check_saying, plan, ("never", some("f", "on")))
        self.assertEqual(plan, read_plan(LOCK))

    def test_by_chance(self):
        # Facts about one plan looked at with another: refused just where a name that they need lacks.
        refused = 0
        for seed in range(300):
            chance = random.Random(seed)
            plan, other = chance_plan(seed), chance_plan(seed + 1000)
            family = chance.choice(plan[0])
            condition = chance_condition(chance, [cell[0] for cell in family[3]])
            fact = some(family[0], chance.choice(family[2] + [""]))[:3] + (condition,)
            check_saying(plan, ("never", fact))
            there = {one[0]: one for one in other[0]}
            names = set(re.findall("[a-z]+", shown_fact(("some", "f", "", condition)))) - {"some", "f", "when", "not",
            "or", "and", "true"}
            good = family[0] in there and (fact[2] == "" or fact[2] in there[family[0]][2])
            good = good and names <= {cell[0] for cell in there[family[0]][3]}
            if good:
                check_saying(other, ("never", fact))
            else:
                refused += 1
                self.assertRaises(NoFact, check_saying, other, ("never", fact))
        self.assertTrue(50 < refused < 250, refused)

    def test_conditions_as_in_plans(self):
        self.assertEqual(read_fact("some f when [a - b - c = 1]")[3], read_condition("a - b - c = 1"))


if __name__ == "__main__":
    unittest.main()
