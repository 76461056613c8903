"""Webs: all standings that come, spoken of by their places, with the places to which their deeds lead."""

from roadsall.facts import Scene, rows_from, truths_in
from roadsall.standings import Board, begin, ends_on


class Web:
    # A place is that of a standing in the whole going, which is also what rows, standings and ends are told by.

    def __init__(self, plan):
        self.plan = plan
        self.board = Board(plan)
        self.known = {}
        self.rows = rows_from([begin(plan)], lambda standing: self.ends_of(standing))
        self.standings = [row[0] for row in self.rows]
        self.places = dict([(standing, place) for place, standing in enumerate(self.standings)])
        self.ends = [self.placed_ends(standing) for standing in self.standings]
        self.scene = Scene(plan, self.standings)

    def ends_of(self, standing):
        # The going asks once for each standing; its ends are kept, as each of them has a place only behind it all.
        self.known[standing] = ends_on(self.board, standing)
        return self.known[standing]

    def placed_ends(self, standing):
        return [(deed, self.places[end]) for deed, end in self.known[standing]]

    def truths_of(self, fact):
        return truths_in(self.scene, fact)

    def standings_in(self, rows):
        return [self.standings[row[0]] for row in rows]


def ends_to(rows, place):
    found = []
    while rows[place][1] is not None:
        found.append((rows[place][2], rows[place][0]))
        place = rows[place][1]
    return list(reversed(found))


def deeds_to(rows, place):
    return [end[0] for end in ends_to(rows, place)]


def first_ahead(rows, place):
    while rows[place][1] is not None:
        place = rows[place][1]
    return rows[place][0]
