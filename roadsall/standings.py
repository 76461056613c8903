"""Standings: the beginning, the possible deeds and what each leads to."""

from roadsall.errors import NoDeed
from roadsall.words import holds, value_of

HIGHEST_LETTER = 999
NOBODY = -1


class Board:
    # What is looked up again and again in a plan, gathered once.

    def __init__(self, plan):
        self.families = plan[0]
        self.homes = families_of(plan)
        self.pairs = pairs_of(plan)
        self.places = {}
        for place, pair in enumerate(self.pairs):
            self.places[(pair[1], pair[2])] = place
        self.members = {}
        for hand in range(len(self.homes)):
            self.members.setdefault(self.family_of(hand)[0], []).append(hand)

    def family_of(self, hand):
        return self.families[self.homes[hand]]

    def hands_beside(self, hand, name):
        return [other for other in self.members[name] if other != hand]


def families_of(plan):
    homes = []
    for place, family in enumerate(plan[0]):
        homes.extend([place] * family[1])
    return homes


def pairs_of(plan):
    names = [plan[0][place][0] for place in families_of(plan)]
    pairs = []
    for road in plan[1]:
        for one, name in enumerate(names):
            if name == road[0]:
                others = [other for other in range(len(names)) if other != one and names[other] == road[1]]
                pairs.extend([(road, one, other) for other in others])
    return pairs


def begin(plan):
    hands = []
    for place in families_of(plan):
        cells = plan[0][place][3]
        whos = plan[0][place][4]
        hands.append((0, tuple([cell[3] for cell in cells]), (NOBODY,) * len(whos)))
    return (tuple(hands), ((),) * len(pairs_of(plan)))


def deeds(plan, standing):
    return [end[0] for end in ends_from(plan, standing)]


def do(plan, standing, deed):
    return do_on(Board(plan), standing, deed)


def do_on(board, standing, deed):
    for known, end in ends_on(board, standing):
        if known == deed:
            return end
    raise NoDeed()


def ends_from(plan, standing):
    return ends_on(Board(plan), standing)


def ends_on(board, standing):
    ends = []
    for hand in range(len(board.homes)):
        ends.extend(hand_ends(board, standing, hand))
    ends.extend(flaw_ends(board, standing, "lose"))
    ends.extend(flaw_ends(board, standing, "double"))
    return ends


def hand_ends(board, standing, hand):
    family = board.family_of(hand)
    room, cells, whos = standing[0][hand]
    values = values_of(family, cells)
    ends = []
    for step in family[5]:
        if step[1] == family[2][room] and holds(step[2], values):
            for letter in takeable(board, standing[1], hand, step[3]):
                ends.extend(step_ends(board, standing, hand, step, letter))
    return ends


def values_of(family, cells):
    return dict(zip([cell[0] for cell in family[3]], cells))


def takeable(board, roads, hand, take):
    if take is None:
        return [None]
    found = []
    for sender in board.hands_beside(hand, take[1]):
        place = board.places[(sender, hand)]
        kind = board.pairs[place][0][2]
        letters = roads[place]
        spots = list(range(len(letters)))[:1] if kind == "row" else unlike_spots(kind, letters)
        found.extend([(sender, spot) for spot in spots if letters[spot][0] == take[0]])
    return found


def unlike_spots(kind, letters):
    spots = list(range(len(letters)))
    if kind == "row":
        return spots
    return [spot for spot in spots if letters.index(letters[spot]) == spot]


def step_ends(board, standing, hand, step, letter):
    family = board.family_of(hand)
    room, cells, whos = standing[0][hand]
    roads = standing[1]
    values = values_of(family, cells)
    if letter is not None:
        place = board.places[(letter[0], hand)]
        values["it"] = roads[place][letter[1]][1]
        roads = replaced(roads, place, without(roads[place], letter[1]))
    cells = cells_behind(family, cells, step, values)
    if cells is None:
        return []
    whos = whos_behind(family, whos, step[3], letter)
    hands = replaced(standing[0], hand, (family[2].index(step[6]), cells, whos))
    ends = []
    for chosen, roads_behind in sendings(board, hand, step[5], values, roads, whos):
        ends.append((("step", hand, step[0], letter, chosen), (hands, roads_behind)))
    return ends


def cells_behind(family, cells, step, values):
    given = {}
    for name, amount in step[4]:
        given[name] = value_of(amount, values)
    if step[3] is not None and step[3][2] != "":
        given[step[3][2]] = values["it"]
    numbers = []
    for place, cell in enumerate(family[3]):
        number = given.get(cell[0], cells[place])
        if cell[0] in given and not cell[1] <= number <= cell[2]:
            return None
        numbers.append(number)
    return tuple(numbers)


def whos_behind(family, whos, take, letter):
    if take is None or take[3] == "":
        return whos
    return replaced(whos, family[4].index(take[3]), letter[0])


def sendings(board, hand, sends, values, roads, whos):
    # Send by send, so that a choice that fills a road too much is not followed any further.
    ways = [((), roads)]
    for mark, amount, way, name in sends:
        letter = (mark, value_of(amount, values))
        further = []
        for chosen, sent in ways:
            for added, targets in targets_of(board, hand, way, name, whos):
                roads_behind = posted(board, sent, hand, targets, letter)
                if roads_behind is not None:
                    further.append((chosen + added, roads_behind))
        ways = further
    return ways


def targets_of(board, hand, way, name, whos):
    if way == "who":
        return [((), [whos[board.family_of(hand)[4].index(name)]])]
    others = board.hands_beside(hand, name)
    if way == "all":
        return [((), others)]
    return [((other,), [other]) for other in others]


def posted(board, roads, hand, targets, letter):
    for target in targets:
        # Nobody and the doer itself have no place here, as no road leads to them.
        place = board.places.get((hand, target))
        if place is None or abs(letter[1]) > HIGHEST_LETTER:
            return None
        road = board.pairs[place][0]
        if len(roads[place]) >= road[3]:
            return None
        letters = roads[place] + (letter,)
        if road[2] == "heap":
            letters = tuple(sorted(letters))
        roads = replaced(roads, place, letters)
    return roads


def flaw_ends(board, standing, word):
    ends = []
    for place, pair in enumerate(board.pairs):
        road, one, other = pair
        letters = standing[1][place]
        if has_flaw(road, word, letters):
            for spot in unlike_spots(road[2], letters):
                roads = replaced(standing[1], place, flawed(word, letters, spot))
                ends.append(((word, one, other, spot), (standing[0], roads)))
    return ends


def has_flaw(road, word, letters):
    if word == "lose":
        return road[4]
    return road[5] and len(letters) < road[3]


def flawed(word, letters, spot):
    if word == "lose":
        return without(letters, spot)
    return letters[:spot + 1] + letters[spot:]


def without(row, place):
    return row[:place] + row[place + 1:]


def replaced(row, place, thing):
    return row[:place] + (thing,) + row[place + 1:]
