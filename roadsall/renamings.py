"""Renamings: hands of a family change their places, and what is then the least of a standing."""

from roadsall.standings import NOBODY, families_of, pairs_of


class Renamer:
    # Where each thing of the renamed standing lay before: reckoned once for many standings.

    def __init__(self, pairs, renaming):
        self.renaming = renaming
        # The last place is also place -1, so nobody stays nobody.
        self.becomes = renaming + (NOBODY,)
        self.sources = sorted(range(len(renaming)), key=lambda hand: renaming[hand])
        places = {}
        for place, pair in enumerate(pairs):
            places[(renaming[pair[1]], renaming[pair[2]])] = place
        self.road_sources = [places[(pair[1], pair[2])] for pair in pairs]

    def whos_at(self, standing, place):
        return tuple([self.becomes[who] for who in standing[0][self.sources[place]][2]])

    def standing_behind(self, standing):
        hands = []
        for place, source in enumerate(self.sources):
            room, cells, whos = standing[0][source]
            hands.append((room, cells, self.whos_at(standing, place)))
        return (tuple(hands), tuple([standing[1][source] for source in self.road_sources]))


def renamings(plan):
    homes = families_of(plan)
    found = [()]
    for home in homes:
        likes = [hand for hand in range(len(homes)) if homes[hand] == home]
        longer = []
        for start in found:
            longer.extend([start + (hand,) for hand in likes if hand not in start])
        found = longer
    return found


def renamed(plan, standing, renaming):
    return Renamer(pairs_of(plan), renaming).standing_behind(standing)


def renamed_deed(deed, renaming):
    if deed[0] != "step":
        word, one, other, place = deed
        return (word, renaming[one], renaming[other], place)
    word, hand, name, letter, hands = deed
    if letter is not None:
        letter = (renaming[letter[0]], letter[1])
    return (word, renaming[hand], name, letter, tuple([renaming[chosen] for chosen in hands]))


def least(plan, standing):
    return least_by(renamers_of(plan), standing)


def renamers_of(plan):
    pairs = pairs_of(plan)
    return [Renamer(pairs, renaming) for renaming in renamings(plan)]


def least_by(renamers, standing):
    # Tuples are compared from their first place on, so each place sifts those that the places ahead left over.
    left = renamers
    owns = [own[:2] for own in standing[0]]
    for place in range(len(owns)):
        left = sifted(left, [owns[renamer.sources[place]] for renamer in left])
        left = sifted(left, [renamer.whos_at(standing, place) for renamer in left])
    for place in range(len(standing[1])):
        left = sifted(left, [standing[1][renamer.road_sources[place]] for renamer in left])
    return (left[0].standing_behind(standing), left[0].renaming)


def sifted(renamers, things):
    if len(renamers) == 1:
        return renamers
    first = min(things)
    return [renamer for renamer, thing in zip(renamers, things) if thing == first]
