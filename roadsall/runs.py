"""Runs: the standings that a row of deeds leads to, and the wishes that a round keeps."""

from roadsall.errors import NoDeed, NotPossible
from roadsall.standings import Board, begin, do_on, families_of, hand_ends


def walked(plan, row):
    board = Board(plan)
    standings = [begin(plan)]
    for place, deed in enumerate(row):
        standings.append(end_at(board, standings[-1], deed, place))
    return standings


def end_at(board, standing, deed, place):
    try:
        return do_on(board, standing, deed)
    except NoDeed:
        raise NotPossible(place) from None


def wishes_of(plan):
    homes = families_of(plan)
    found = []
    for place, wish in enumerate(plan[2]):
        found.extend([(place, hand) for hand in range(len(homes)) if plan[0][homes[hand]][0] == wish[1]])
    return found


def done_by(plan, wish, deed):
    place, hand = wish
    return deed[:3] == ("step", hand, plan[2][place][2])


def able(plan, standing, wish):
    return able_on(Board(plan), plan, standing, wish)


def able_on(board, plan, standing, wish):
    return any([done_by(plan, wish, end[0]) for end in hand_ends(board, standing, wish[1])])


def keeps(plan, wish, standings, row):
    if any([done_by(plan, wish, deed) for deed in row]):
        return True
    board = Board(plan)
    ables = [able_on(board, plan, standing, wish) for standing in standings]
    if plan[2][wish[0]][0] == "weak":
        return not all(ables)
    return not any(ables)
