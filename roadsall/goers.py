"""Goings: all standings that come, the least ones alone, and those that are enough for some facts."""

from roadsall.facts import HAND_PARTS, KNOWING, coming_rows, fits, parts_of, rows_from
from roadsall.renamings import least_by, renamers_of
from roadsall.standings import Board, begin, cells_behind, ends_on, hand_ends, values_of
from roadsall.words import holds


class Folder:
    # The same end is come to from many standings, so its least one is kept.

    def __init__(self, plan):
        self.board = Board(plan)
        self.renamers = renamers_of(plan)
        self.leasts = {}

    def least_one(self, standing):
        if standing not in self.leasts:
            self.leasts[standing] = least_by(self.renamers, standing)[0]
        return self.leasts[standing]

    def least_ends(self, standing):
        return [(deed, self.least_one(end)) for deed, end in ends_on(self.board, standing)]


class Thinner:
    # What a quiet hand can do hangs on its own room and cells alone, and changes nothing else. So these have a rank:
    # where it is above 0, the hand has possible steps, none of them is seen, and each of them leads to a lesser rank.
    # The sum of all hands' ranks falls with each such step, whichever hand does it: it is the row's number.

    def __init__(self, plan, facts):
        self.board = Board(plan)
        self.parts = hand_parts(facts)
        self.ranks = {}
        self.kept = {}

    def ends_of(self, standing):
        hand = self.hand_for(standing)
        if hand is None:
            return ends_on(self.board, standing)
        return hand_ends(self.board, standing, hand)

    def row_of(self, standing):
        return (standing, self.hand_for(standing), sum(self.ranks_in(standing)))

    def hand_for(self, standing):
        for hand, rank in enumerate(self.ranks_in(standing)):
            if rank > 0:
                return hand
        return None

    def ranks_in(self, standing):
        found = []
        for home, own in zip(self.board.homes, standing[0]):
            thing = (home, own[0], own[1])
            if thing not in self.ranks:
                self.rank_from(thing)
            found.append(self.ranks[thing])
        return found

    def rank_from(self, first):
        # Steps may follow one another by the thousand: what waits for its ends is kept in a list, not in calls.
        begun = {}
        waiting = [first]
        while waiting:
            thing = waiting[-1]
            if thing in self.ranks:
                waiting.pop()
                continue
            begun[thing] = True
            ends = self.free_ends(thing)
            late = [end for end in ends if end not in self.ranks]
            if len(ends) == 0 or any([end in begun for end in late]):
                # An end that is begun and has no rank yet leads back here, and no rank falls all along a round.
                self.ranks[thing] = 0
            elif len(late) == 0:
                self.ranks[thing] = 1 + max([self.ranks[end] for end in ends])
            else:
                waiting.extend(late)

    def free_ends(self, thing):
        home, room, cells = thing
        family = self.board.families[home]
        if not is_quiet_room(family, room):
            return []
        ends = [(home, end[0], end[1]) for end in quiet_ends(family, room, cells)]
        # A step is seen where some part of the facts is kept on one side of it alone.
        if any([self.kept_in(end) != self.kept_in(thing) for end in ends]):
            return []
        return ends

    def kept_in(self, thing):
        if thing not in self.kept:
            home, room, cells = thing
            family = self.board.families[home]
            parts = [part for part in self.parts if part[0] == family[0]]
            self.kept[thing] = [fits(family, (room, cells), part[1], part[2]) for part in parts]
        return self.kept[thing]


def whole(plan):
    return coming_rows(plan)


def folded(plan):
    folder = Folder(plan)
    rows = rows_from([folder.least_one(begin(plan))], lambda standing: folder.least_ends(standing))
    return [row[0] for row in rows]


def thinned(plan, facts):
    thinner = Thinner(plan, facts)
    rows = rows_from([begin(plan)], lambda standing: thinner.ends_of(standing))
    return [thinner.row_of(row[0]) for row in rows]


def is_plain(fact):
    return not any([part[0] == "dry" or part[0] in KNOWING for part in parts_of(fact)])


def is_quiet_hand(plan, standing, hand):
    return is_quiet_room(Board(plan).family_of(hand), standing[0][hand][0])


def is_quiet_room(family, room):
    return all([step[3] is None and len(step[5]) == 0 for step in steps_at(family, room)])


def steps_at(family, room):
    return [step for step in family[5] if step[1] == family[2][room]]


def quiet_ends(family, room, cells):
    values = values_of(family, cells)
    ends = []
    for step in steps_at(family, room):
        if holds(step[2], values):
            cells_then = cells_behind(family, cells, step, values)
            if cells_then is not None:
                ends.append((family[2].index(step[6]), cells_then))
    return ends


def hand_parts(facts):
    found = []
    for fact in facts:
        found.extend([part[1:4] for part in parts_of(fact) if part[0] in HAND_PARTS])
    return found
