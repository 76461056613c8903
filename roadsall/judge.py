"""The judge: whether a paper shows what an answer says, by the plan and the saying alone."""

from roadsall.courts import (
    Court, are_standings, are_tuples_of, is_from, is_from_nought, is_told_thing, is_tuple_of, run_from,
)
from roadsall.facts import fits, speaks_of_knowing
from roadsall.goers import Folder, is_plain, is_quiet_room
from roadsall.lasting import LASTING
from roadsall.lots import ends_within, hand_wishes, inner_ends, steps_of
from roadsall.runs import keeps, wishes_of
from roadsall.safety import SAFETY, bad_and_final


class Rows:
    # The rows of a lots paper by their places: the deeds that lead from one to another, and the steps that can be done.

    def __init__(self, court, standings):
        inner = dict([(standing, place) for place, standing in enumerate(standings)])
        self.wishes = hand_wishes(court.plan)
        self.ends = [inner_ends(court.ends_of(standing), inner) for standing in standings]
        self.able = [steps_of(court.ends_of(standing)) for standing in standings]


def judge(plan, saying, answer, paper):
    if not is_told_thing(paper):
        return False
    court = Court(plan, saying)
    if speaks_of_knowing(saying):
        return is_whole_paper(court, answer, paper)
    return is_paper(court, answer, paper)


def is_whole_paper(court, answer, paper):
    if not (is_called(paper, "whole", 3) and is_whole_going(court, paper[1])):
        return False
    court.gather([row[0] for row in paper[1]])
    return is_paper(court, answer, paper[2])


def is_called(paper, word, length):
    return is_tuple_of(paper, length) and paper[0] == word


def is_whole_going(court, rows):
    if not are_tuples_of(rows, 3):
        return False
    standings = [row[0] for row in rows]
    if not (are_standings(court.board, standings) and rows[:1] == [(court.first, None, None)]):
        return False
    if not all([comes_from_ahead(court, rows, place) for place in range(1, len(rows))]):
        return False
    return is_closed(court, standings, [False] * len(rows))


def comes_from_ahead(court, rows, place):
    standing, ahead, deed = rows[place]
    return is_from(ahead, 0, place - 1) and (deed, standing) in court.ends_of(rows[ahead][0])


def is_closed(court, standings, finals):
    return is_closed_by(standings, finals, lambda standing: court.ends_of(standing))


def is_closed_by(standings, finals, ends_by):
    listed = dict([(standing, True) for standing in standings])
    for standing, final in zip(standings, finals):
        if not final and not all([end in listed for deed, end in ends_by(standing)]):
            return False
    return True


def is_paper(court, answer, paper):
    if court.saying[0] in SAFETY:
        return is_safety_paper(court, answer, paper)
    if court.saying[0] in LASTING:
        return is_lasting_paper(court, answer, paper)
    return is_can_paper(court, answer, paper)


def is_safety_paper(court, answer, paper):
    if answer == "no":
        return is_called(paper, "run", 2) and is_bad_run(court, paper[1])
    if answer != "yes":
        return False
    if is_called(paper, "all", 2):
        return is_all(court, paper[1])
    # A whole paper has neither of these two within.
    if is_called(paper, "folded", 2) and not speaks_of_knowing(court.saying):
        return is_folded(court, paper[1])
    if is_called(paper, "thinned", 2) and all([is_plain(fact) for fact in court.saying[1:]]):
        return is_thinned(court, paper[1])
    return False


def bad_and_final_at(court, standings):
    return bad_and_final(court.saying, lambda fact: court.truths_at(fact, standings))


def is_bad_run(court, deeds):
    standings = run_from(court, court.first, deeds)
    if standings is None:
        return False
    bads, finals = bad_and_final_at(court, standings)
    return bads[-1] and not any(bads[:-1]) and not any(finals)


def is_all(court, standings):
    if not (are_standings(court.board, standings) and court.first in standings):
        return False
    bads, finals = bad_and_final_at(court, standings)
    return not any(bads) and is_closed(court, standings, finals)


def is_folded(court, standings):
    if not are_standings(court.board, standings):
        return False
    folder = Folder(court.plan)
    if not (folder.least_one(court.first) in standings and are_leasts(folder, standings)):
        return False
    bads, finals = bad_and_final_at(court, standings)
    return not any(bads) and is_closed_by(standings, finals, lambda standing: folder.least_ends(standing))


def are_leasts(folder, standings):
    return all([folder.least_one(standing) == standing for standing in standings])


def is_thinned(court, rows):
    if not (are_tuples_of(rows, 3) and all([is_from_nought(row[2]) for row in rows])):
        return False
    standings = [row[0] for row in rows]
    if not (are_standings(court.board, standings) and standings[:1] == [court.first]):
        return False
    bads, finals = bad_and_final_at(court, standings)
    numbers = dict([(row[0], row[2]) for row in rows])
    if any(bads):
        return False
    return all([is_thin_row(court, numbers, row, final) for row, final in zip(rows, finals)])


def is_thin_row(court, numbers, row, final):
    standing, hand, number = row
    if final:
        return hand is None
    if hand is None:
        return all([end in numbers for deed, end in court.ends_of(standing)])
    if not (is_from(hand, 0, len(court.board.homes) - 1) and is_quiet(court, standing, hand)):
        return False
    ends = [end for deed, end in court.ends_of(standing) if deed[:2] == ("step", hand)]
    if len(ends) == 0 or any([is_seen(court, hand, standing, end) for end in ends]):
        return False
    return all([numbers.get(end, number) < number for end in ends])


def is_quiet(court, standing, hand):
    return is_quiet_room(court.board.family_of(hand), standing[0][hand][0])


def is_seen(court, hand, ahead, behind):
    family = court.board.family_of(hand)
    for name, room, condition in court.parts:
        if name == family[0]:
            kept = fits(family, ahead[0][hand][:2], room, condition)
            if kept != fits(family, behind[0][hand][:2], room, condition):
                return True
    return False


def is_lasting_paper(court, answer, paper):
    if answer == "yes":
        return is_called(paper, "lots", 4) and is_lots(court, paper[1], paper[2], paper[3])
    if answer != "no":
        return False
    if is_called(paper, "round", 3):
        return is_round(court, paper[1], paper[2])
    return is_called(paper, "end", 2) and is_end(court, paper[1])


def is_lots(court, standings, rows, lots):
    if not (are_standings(court.board, standings) and are_standings(court.board, rows) and court.first in standings):
        return False
    goals = court.truths_at(court.saying[-1], standings)
    finals = goals if court.saying[0] == "at last" else [False] * len(goals)
    if not (is_closed(court, standings, finals) and holds_awaiting(court, standings, goals, rows)):
        return False
    if any([len(court.ends_of(standing)) == 0 for standing in rows]):
        return False
    return are_lots(Rows(court, rows), lots, list(range(len(rows))))


def holds_awaiting(court, standings, goals, rows):
    listed = dict([(standing, True) for standing in rows])
    starts = [True] * len(goals)
    if court.saying[0] == "whenever":
        starts = court.truths_at(court.saying[1], standings)
    for standing, start, goal in zip(standings, starts, goals):
        if start and not goal and standing not in listed:
            return False
    outside = []
    for standing in rows:
        outside.extend([end for deed, end in court.ends_of(standing) if end not in listed])
    return all(court.truths_at(court.saying[-1], outside))


def are_lots(rows, lots, places):
    if not (are_tuples_of(lots, 3) and all([are_places(lot[0]) for lot in lots])):
        return False
    found = []
    homes = {}
    for number, lot in enumerate(lots):
        found.extend(lot[0])
        homes.update(dict([(place, number) for place in lot[0]]))
    if sorted(found) != sorted(places):
        return False
    for place in places:
        if any([homes.get(end, homes[place]) < homes[place] for deed, end in rows.ends[place]]):
            return False
    return all([is_lot(rows, lot) for lot in lots])


def are_places(places):
    return isinstance(places, list) and len(places) > 0 and all([is_from_nought(place) for place in places])


def is_lot(rows, lot):
    places, wish, rest = lot
    within = ends_within(rows, places)
    if len(within) == 0:
        return wish is None and rest == []
    if wish not in rows.wishes or wish[1:] in steps_of(within):
        return False
    left = [place for place in places if wish[1:] not in rows.able[place]]
    if wish[0] == "weak":
        return len(left) == 0 and rest == []
    # It is able nowhere in the rest, so lots lie within one another no deeper than there are wishes of hands.
    return len(left) < len(places) and are_lots(rows, rest, left)


def is_round(court, deeds, more):
    standings = run_from(court, court.first, deeds)
    if standings is None:
        return False
    around = run_from(court, standings[-1], more)
    if around is None or len(more) == 0 or around[-1] != around[0]:
        return False
    if any(court.truths_at(court.saying[-1], around)) or not waits_in_vain(court, standings):
        return False
    return all([keeps(court.plan, wish, around[:-1], more) for wish in wishes_of(court.plan)])


def is_end(court, deeds):
    standings = run_from(court, court.first, deeds)
    if standings is None or len(court.ends_of(standings[-1])) > 0:
        return False
    return waits_in_vain(court, standings)


def waits_in_vain(court, standings):
    goals = court.truths_at(court.saying[-1], standings)
    if court.saying[0] == "at last":
        return not any(goals)
    waits = False
    for start, goal in zip(court.truths_at(court.saying[1], standings), goals):
        waits = (waits or start) and not goal
    return waits


def is_can_paper(court, answer, paper):
    if answer == "yes":
        return is_called(paper, "ways", 2) and is_ways(court, paper[1])
    return answer == "no" and is_called(paper, "shut", 3) and is_shut(court, paper[1], paper[2])


def is_ways(court, rows):
    if not (are_tuples_of(rows, 2) and all([is_from_nought(row[1]) for row in rows])):
        return False
    standings = [row[0] for row in rows]
    if not (are_standings(court.board, standings) and court.first in standings):
        return False
    if not is_closed(court, standings, [False] * len(rows)):
        return False
    numbers = dict(rows)
    for row, goal in zip(rows, court.truths_at(court.saying[1], standings)):
        if not goal and not any([numbers[end] < row[1] for deed, end in court.ends_of(row[0])]):
            return False
    return True


def is_shut(court, deeds, standings):
    run = run_from(court, court.first, deeds)
    if run is None or not are_standings(court.board, standings) or run[-1] not in standings:
        return False
    if any(court.truths_at(court.saying[1], standings)):
        return False
    return is_closed(court, standings, [False] * len(standings))
