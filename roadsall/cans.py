"""The saying always can, with its papers."""

from roadsall.facts import rows_from
from roadsall.webs import deeds_to


def can_answer(web, fact):
    numbers = numbers_to(web, web.truths_of(fact))
    for place in range(len(web.standings)):
        if place not in numbers:
            return ("no", shut_paper(web, place))
    return ("yes", ("ways", [(standing, numbers[place]) for place, standing in enumerate(web.standings)]))


def numbers_to(web, goals):
    # How many deeds are needed at least, gone backwards from where the fact stands.
    backs = ends_backwards(web)
    rows = rows_from([place for place, goal in enumerate(goals) if goal], lambda place: backs[place])
    numbers = {}
    for place, ahead, deed in rows:
        numbers[place] = 0 if ahead is None else numbers[rows[ahead][0]] + 1
    return numbers


def ends_backwards(web):
    backs = [[] for place in web.ends]
    for place, ends in enumerate(web.ends):
        for deed, end in ends:
            backs[end].append((deed, place))
    return backs


def shut_paper(web, place):
    rows = rows_from([place], lambda one: web.ends[one])
    return ("shut", deeds_to(web.rows, place), web.standings_in(rows))
