"""Sayings about safety: never, always and ahead, with their papers."""

from roadsall.facts import rows_from
from roadsall.goers import Folder, Thinner, is_plain
from roadsall.webs import deeds_to

SAFETY = ("never", "always", "ahead")


def safety_answer(web, saying, way):
    bads, finals = bad_and_final(saying, lambda fact: web.truths_of(fact))
    rows = rows_from([0], lambda place: ends_ahead(web, finals, place))
    for place, row in enumerate(rows):
        if bads[row[0]]:
            return ("no", ("run", deeds_to(rows, place)))
    facts = list(saying[1:])
    if way == "folded" and all([is_plain(fact) for fact in facts]):
        return ("yes", ("folded", folded_standings(web, finals)))
    if way == "thinned" and all([is_plain(fact) for fact in facts]):
        return ("yes", ("thinned", thinned_rows(web, facts, finals)))
    return ("yes", ("all", web.standings_in(rows)))


def bad_and_final(saying, truths_by):
    ones = truths_by(saying[1])
    if saying[0] == "never":
        return (ones, [False] * len(ones))
    if saying[0] == "always":
        return ([not one for one in ones], [False] * len(ones))
    others = truths_by(saying[2])
    return ([other and not one for one, other in zip(ones, others)], ones)


def ends_ahead(web, finals, place):
    return [] if finals[place] else web.ends[place]


def folded_standings(web, finals):
    folder = Folder(web.plan)
    # The beginning is the least of itself, as all hands of a family begin alike.
    rows = rows_from([0], lambda place: least_ends(web, finals, folder, place))
    return web.standings_in(rows)


def least_ends(web, finals, folder, place):
    ends = ends_ahead(web, finals, place)
    # A least one has a place, as each renaming of a standing that comes can come too.
    return [(deed, web.places[folder.least_one(web.standings[end])]) for deed, end in ends]


def thinned_rows(web, facts, finals):
    thinner = Thinner(web.plan, facts)
    rows = rows_from([0], lambda place: thin_ends(web, finals, thinner, place))
    return [thin_row(web, finals, thinner, row[0]) for row in rows]


def thin_ends(web, finals, thinner, place):
    ends = ends_ahead(web, finals, place)
    hand = thinner.hand_for(web.standings[place])
    if hand is None:
        return ends
    return [end for end in ends if end[0][:2] == ("step", hand)]


def thin_row(web, finals, thinner, place):
    standing, hand, number = thinner.row_of(web.standings[place])
    return (standing, None if finals[place] else hand, number)
