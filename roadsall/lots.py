"""Lots: awaiting standings put in an order such that no fair run stays in one lot for ever."""

from roadsall.facts import rows_from
from roadsall.runs import wishes_of


class Waiting:
    # The awaiting standings by their places among themselves: the deeds that lead from one to another, the steps that
    # each hand can do, whether they lead out or not, and the first lot found in which a fair run can stay.

    def __init__(self, web, places):
        self.wishes = hand_wishes(web.plan)
        inner = dict([(place, number) for number, place in enumerate(places)])
        self.ends = [inner_ends(web.ends[place], inner) for place in places]
        self.able = [steps_of(web.ends[place]) for place in places]
        self.fair = None


def hand_wishes(plan):
    return [(plan[2][place][0], hand, plan[2][place][2]) for place, hand in wishes_of(plan)]


def inner_ends(ends, inner):
    return [(deed, inner[end]) for deed, end in ends if end in inner]


def steps_of(ends):
    return dict([(deed[1:3], True) for deed, end in ends if deed[0] == "step"])


def lots_of(waiting, places):
    return [lot_of(waiting, group) for group in groups_of(waiting, places)]


def lot_of(waiting, places):
    within = ends_within(waiting, places)
    if len(within) == 0:
        return (places, None, [])
    found = unkept_wishes(waiting, places, steps_of(within))
    if len(found) == 0:
        # With such a lot no lots are told, so that it only has to be found again.
        if waiting.fair is None:
            waiting.fair = places
        return (places, None, [])
    # What is left over is told within this lot, so that with the fewest places keeps the paper flat.
    wish, left = min(found, key=lambda one: len(one[1]))
    return (places, wish, lots_of(waiting, left))


def ends_within(waiting, places):
    inside = dict([(place, True) for place in places])
    found = []
    for place in places:
        found.extend([end for end in waiting.ends[place] if end[1] in inside])
    return found


def unkept_wishes(waiting, places, done):
    # Each with the places at which a run may stay for ever and yet keep the wish.
    found = []
    for wish in waiting.wishes:
        if wish[1:] not in done:
            left = [place for place in places if wish[1:] not in waiting.able[place]]
            if len(left) == 0 or wish[0] == "strong" and len(left) < len(places):
                found.append((wish, left))
    return found


def groups_of(waiting, places):
    # Places that lead to one another, a group ahead of those to which it leads: gone backwards from the place that
    # ended last of all that are left, nothing is come to but its group and groups told already.
    backs = backs_within(waiting, places)
    grouped = {}
    groups = []
    for first in reversed(ended_in_order(waiting, places)):
        if first not in grouped:
            group = group_back(backs, grouped, first)
            grouped.update(dict([(place, True) for place in group]))
            groups.append(group)
    return groups


def group_back(backs, grouped, first):
    rows = rows_from([first], lambda place: [end for end in backs[place] if end[1] not in grouped])
    return sorted([row[0] for row in rows])


def backs_within(waiting, places):
    backs = dict([(place, []) for place in places])
    for place in places:
        for deed, end in waiting.ends[place]:
            if end in backs:
                backs[end].append((deed, place))
    return backs


def ended_in_order(waiting, places):
    # Places may follow one another by the thousand: those not yet ended are kept in a list, not in calls.
    inside = dict([(place, True) for place in places])
    begun = {}
    ended = {}
    for first in places:
        pending = [first]
        while pending:
            place = pending[-1]
            if place not in begun:
                begun[place] = True
                ends = [end[1] for end in waiting.ends[place]]
                pending.extend([end for end in ends if end in inside and end not in begun])
            else:
                pending.pop()
                ended[place] = True
    return list(ended)
