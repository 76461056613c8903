"""Facts: the standings that can come, and which facts hold and are known in them."""

from roadsall.errors import TooMany
from roadsall.standings import Board, begin, ends_on, flaw_ends, hand_ends, values_of
from roadsall.words import compared, holds

MOST_STANDINGS = 2000
HAND_PARTS = ("some", "all", "many")
KNOWING = ("some knows", "each knows")


class Scene:
    # The standings in which a fact is looked at, and which of them are dry, once that is asked. What hands know hangs
    # on all standings that come: they are the scene around this one, or this one itself.

    def __init__(self, plan, standings, around=None):
        self.board = Board(plan)
        self.standings = standings
        self.around = self if around is None else around
        self.dries = None

    def dry_truths(self):
        if self.dries is None:
            self.dries = [is_dry(self.board, standing) for standing in self.standings]
        return list(self.dries)


def comings(plan):
    return [row[0] for row in coming_rows(plan)]


def coming_rows(plan):
    board = Board(plan)
    return rows_from([begin(plan)], lambda standing: ends_on(board, standing))


def rows_from(firsts, ends_of):
    rows = [(first, None, None) for first in firsts]
    listed = dict([(first, True) for first in firsts])
    place = 0
    while place < len(rows):
        thing = rows[place][0]
        for deed, end in ends_of(thing):
            if end not in listed:
                if len(rows) == MOST_STANDINGS:
                    raise TooMany()
                listed[end] = True
                rows.append((end, place, deed))
        place += 1
    return rows


def holds_at(plan, fact, standing):
    return truths(plan, fact, [standing])[0]


def truths(plan, fact, web):
    return truths_in(Scene(plan, web), fact)


def truths_in(scene, fact):
    kind = fact[0]
    if kind == "true":
        return [True] * len(scene.standings)
    if kind == "not":
        return [not truth for truth in truths_in(scene, fact[1])]
    if kind in ("and", "or"):
        return joined(kind, truths_in(scene, fact[1]), truths_in(scene, fact[2]))
    if kind in HAND_PARTS:
        return hand_truths(scene, fact)
    if kind == "letters":
        return letter_truths(scene, fact)
    if kind == "dry":
        return scene.dry_truths()
    return knowing_truths(scene, fact)


def joined(kind, ones, others):
    if kind == "and":
        return [one and other for one, other in zip(ones, others)]
    return [one or other for one, other in zip(ones, others)]


def is_dry(board, standing):
    for hand in range(len(board.homes)):
        if hand_ends(board, standing, hand):
            return False
    return not (flaw_ends(board, standing, "lose") or flaw_ends(board, standing, "double"))


def hand_truths(scene, fact):
    kind, name, room, condition = fact[:4]
    members = scene.board.members[name]
    numbers = fitting_numbers(scene, members, room, condition)
    if kind == "some":
        return [number > 0 for number in numbers]
    if kind == "all":
        return [number == len(members) for number in numbers]
    return [compared(fact[4], number, fact[5]) for number in numbers]


def fitting_numbers(scene, members, room, condition):
    family = scene.board.family_of(members[0])
    # Many standings share what a hand has of its own, so each such thing is looked at once.
    known = {}
    numbers = []
    for standing in scene.standings:
        number = 0
        for hand in members:
            own = standing[0][hand][:2]
            if own not in known:
                known[own] = fits(family, own, room, condition)
            if known[own]:
                number += 1
        numbers.append(number)
    return numbers


def fits(family, own, room, condition):
    if room != "" and family[2][own[0]] != room:
        return False
    return holds(condition, values_of(family, own[1]))


def letter_truths(scene, fact):
    one, other, mark, word, number = fact[1:]
    places = [place for place, pair in enumerate(scene.board.pairs) if pair[0][:2] == (one, other)]
    return [compared(word, letter_number(standing, places, mark), number) for standing in scene.standings]


def letter_number(standing, places, mark):
    number = 0
    for place in places:
        number += len([letter for letter in standing[1][place] if mark == "" or letter[0] == mark])
    return number


def knowing_truths(scene, fact):
    kind, name, inner = fact
    inner_truths = truths_in(scene.around, inner)
    found = []
    for hand in scene.board.members[name]:
        known = known_truths(scene, hand, inner_truths)
        if len(found) == 0:
            found = known
        else:
            found = joined("or" if kind == "some knows" else "and", found, known)
    return found


def known_truths(scene, hand, inner_truths):
    firm = {}
    for standing, truth in zip(scene.around.standings, inner_truths):
        own = standing[0][hand]
        firm[own] = firm.get(own, True) and truth
    # Where no standing comes in which the hand's own is the same, every fact holds in all of them.
    return [firm.get(standing[0][hand], True) for standing in scene.standings]


def parts_of(fact):
    kind = fact[0]
    if kind == "not":
        return [fact] + parts_of(fact[1])
    if kind in ("and", "or"):
        return [fact] + parts_of(fact[1]) + parts_of(fact[2])
    if kind in KNOWING:
        return [fact] + parts_of(fact[2])
    return [fact]


def speaks_of_knowing(saying):
    parts = []
    for fact in saying[1:]:
        parts.extend(parts_of(fact))
    return any([part[0] in KNOWING for part in parts])
