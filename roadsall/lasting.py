"""Sayings about what comes at last, on fair runs: at last and whenever, with their papers."""

from roadsall.facts import rows_from
from roadsall.lots import Waiting, lots_of
from roadsall.rounds import Walk
from roadsall.webs import deeds_to, first_ahead

LASTING = ("at last", "whenever")


def lasting_answer(web, saying):
    goals = web.truths_of(saying[-1])
    rows = rows_from(first_awaiting(web, saying, goals), lambda place: ends_without(web, goals, place))
    for place, row in enumerate(rows):
        if len(web.ends[row[0]]) == 0:
            return ("no", ("end", run_to(web, rows, place)))
    waiting = Waiting(web, [row[0] for row in rows])
    lots = lots_of(waiting, list(range(len(rows))))
    if waiting.fair is not None:
        walk = Walk(waiting, waiting.fair)
        return ("no", ("round", run_to(web, rows, walk.first), walk.whole_round()))
    return ("yes", ("lots", closed_standings(web, saying, goals), web.standings_in(rows), lots))


def first_awaiting(web, saying, goals):
    if saying[0] == "at last":
        return [] if goals[0] else [0]
    starts = web.truths_of(saying[1])
    return [place for place, start in enumerate(starts) if start and not goals[place]]


def ends_without(web, goals, place):
    return [end for end in web.ends[place] if not goals[end[1]]]


def run_to(web, rows, place):
    return deeds_to(web.rows, first_ahead(rows, place)) + deeds_to(rows, place)


def closed_standings(web, saying, goals):
    if saying[0] == "whenever":
        return list(web.standings)
    # Behind the fact nothing is awaited any more, so what comes there alone has no place in the paper.
    rows = rows_from([0], lambda place: [] if goals[place] else web.ends[place])
    return web.standings_in(rows)
