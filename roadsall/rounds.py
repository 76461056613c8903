"""Rounds: a walk through a lot and back that keeps each wish for each hand."""

from roadsall.facts import rows_from
from roadsall.webs import ends_to


class Walk:
    # Within a lot that has no wish to tell for it: a wish is done by one of its deeds, or, if it is weak, not able at
    # one of its places, or, if it is strong, at none.

    def __init__(self, waiting, places):
        self.waiting = waiting
        self.inside = dict([(place, True) for place in places])
        self.first = places[0]
        self.here = places[0]
        self.more = []

    def whole_round(self):
        for wish in self.waiting.wishes:
            self.keep(wish)
        if len(self.more) == 0:
            self.follow(self.inner_ends(self.first)[:1])
        self.go_to([self.first])
        return self.more

    def keep(self, wish):
        doers = [place for place in self.inside if self.ends_doing(place, wish)]
        if len(doers) == 0:
            self.go_to([place for place in self.inside if wish[1:] not in self.waiting.able[place]])
        elif not any([does(deed, wish) for deed in self.more]):
            self.go_to(doers)
            self.follow(self.ends_doing(self.here, wish)[:1])

    def inner_ends(self, place):
        return [end for end in self.waiting.ends[place] if end[1] in self.inside]

    def ends_doing(self, place, wish):
        return [end for end in self.inner_ends(place) if does(end[0], wish)]

    def go_to(self, goals):
        sought = dict([(goal, True) for goal in goals])
        rows = rows_from([self.here], lambda place: self.inner_ends(place))
        near = min([number for number, row in enumerate(rows) if row[0] in sought])
        self.follow(ends_to(rows, near))

    def follow(self, ends):
        for deed, end in ends:
            self.more.append(deed)
            self.here = end


def does(deed, wish):
    return deed[:3] == ("step",) + wish[1:]
