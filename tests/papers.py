"""A slow reading of the document's words on papers: what one lacks, as a list of words, none where it is right."""

import re

from roadsall.errors import NoDeed
from roadsall.facts import truths
from roadsall.runs import able, done_by, wishes_of
from roadsall.standings import begin, do, ends_from, families_of, pairs_of
from oracle import first_rows, is_quiet, least_of_all, sees, stands

SAFETY = ("never", "always", "ahead")


def inner_facts(fact):
    found = [fact]
    for part in fact[1:]:
        if isinstance(part, tuple) and fact[0] in ("not", "and", "or", "some knows", "each knows"):
            found.extend(inner_facts(part))
    return found


def kinds_within(saying):
    return {part[0] for fact in saying[1:] for part in inner_facts(fact)}


def has_knowing(saying):
    return bool(kinds_within(saying) & {"some knows", "each knows"})


def is_plain_saying(saying):
    return not kinds_within(saying) & {"dry", "some knows", "each knows"}


class Kept(dict):
    """What is reckoned once for each standing, where it is first asked."""

    def __init__(self, known, reckon):
        super().__init__(known)
        self.reckon = reckon

    def __missing__(self, standing):
        self[standing] = self.reckon(standing)
        return self[standing]


class Look:
    """A plan and a saying, looked at in all standings that come (if they are not too many) and in any others."""

    def __init__(self, plan, saying, most=2000):
        self.plan, self.saying = plan, saying
        self.web = [row[0] for row in first_rows(plan, most) or ()]
        self.coming = set(self.web)
        self.ends = Kept({}, lambda standing: ends_from(plan, standing))
        self.facts = [Kept(zip(self.web, truths(plan, fact, self.web)),
                           lambda standing, fact=fact: stands(plan, fact, standing, self.web)) for fact in saying[1:]]
        self.standing_shape = shape_of_standings(plan)
        self.leasts = {}
        self.ables = {}

    def least(self, standing):
        if standing not in self.leasts:
            self.leasts[standing] = least_of_all(self.plan, standing)[0]
        return self.leasts[standing]

    def is_bad(self, standing):
        truth = self.facts[0][standing]
        return {"never": truth, "always": not truth, "ahead": not truth and self.facts[-1][standing]}[self.saying[0]]

    def is_final(self, standing):
        return self.saying[0] in ("ahead", "at last") and self.facts[0][standing]

    def is_able(self, standing, wish):
        if (standing, wish) not in self.ables:
            self.ables[(standing, wish)] = able(self.plan, standing, wish)
        return self.ables[(standing, wish)]

    def hand_wishes(self):
        """Each wish of a hand as papers tell it, with what the plan's own words call it."""
        return {(self.plan[2][place][0], hand, self.plan[2][place][2]): (place, hand)
                for place, hand in wishes_of(self.plan)}


def among(*values):
    return lambda look, thing: isinstance(thing, (int, str)) and not isinstance(thing, bool) and thing in values


def tuple_of(*shapes):
    return lambda look, thing: (isinstance(thing, tuple) and len(thing) == len(shapes)
                                and all(shape(look, part) for shape, part in zip(shapes, thing)))


def list_of(shape):
    return lambda look, thing: isinstance(thing, list) and all(shape(look, part) for part in thing)


def number_shape(look, thing):
    return isinstance(thing, int) and not isinstance(thing, bool)


def number_or_none(look, thing):
    return thing is None or number_shape(look, thing)


def truthless(look, thing):
    """For what is compared later: there a truth would pass for a number."""
    if isinstance(thing, (list, tuple)):
        return all(truthless(look, part) for part in thing)
    return not isinstance(thing, bool)


def letter_shape(look, thing):
    if not tuple_of(lambda look, mark: isinstance(mark, str), number_shape)(look, thing):
        return False
    return bool(re.fullmatch("[a-z]+", thing[0])) and thing[0] not in ("or", "and", "not", "true") and abs(thing[1]) < 1000


def road_shape(road):
    def shape(look, thing):
        good = isinstance(thing, tuple) and len(thing) <= road[3] and all(letter_shape(look, part) for part in thing)
        return good and (road[2] == "row" or list(thing) == sorted(thing))
    return shape


def shape_of_standings(plan):
    homes = families_of(plan)
    hands = []
    for home in homes:
        name, many, rooms, cells, whos, steps = plan[0][home]
        hands.append(tuple_of(among(*range(len(rooms))),
                              tuple_of(*[among(*range(cell[1], cell[2] + 1)) for cell in cells]),
                              tuple_of(*[among(*range(-1, len(homes)))] * len(whos))))
    return tuple_of(tuple_of(*hands), tuple_of(*[road_shape(pair[0]) for pair in pairs_of(plan)]))


def standing_shape(look, thing):
    return look.standing_shape(look, thing)


def lot_shape(look, thing):
    return tuple_of(list_of(number_shape), truthless, list_of(lot_shape))(look, thing)


SHAPES = {
    "all": [list_of(standing_shape)],
    "folded": [list_of(standing_shape)],
    "thinned": [list_of(tuple_of(standing_shape, number_or_none, number_shape))],
    "run": [list_of(truthless)],
    "lots": [list_of(standing_shape), list_of(standing_shape), list_of(lot_shape)],
    "round": [list_of(truthless), list_of(truthless)],
    "end": [list_of(truthless)],
    "ways": [list_of(tuple_of(standing_shape, number_shape))],
    "shut": [list_of(truthless), list_of(standing_shape)],
    "whole": [list_of(tuple_of(standing_shape, number_or_none, truthless)), lambda look, thing: True],
}


def has_shape(look, paper):
    """The rough form alone, after which nothing that is looked at further is of another kind than it should be."""
    if not isinstance(paper, tuple) or not paper or not isinstance(paper[0], str) or paper[0] not in SHAPES:
        return False
    return tuple_of(among(paper[0]), *SHAPES[paper[0]])(look, paper)


def list_faults(look, standings):
    return [] if len(set(standings)) == len(standings) else ["a standing twice"]


def standings_told(paper):
    """All standings of a paper of the right shape."""
    name, parts = paper[0], paper[1:]
    if name == "whole":
        return [row[0] for row in parts[0]] + standings_told(parts[1])
    if name in ("thinned", "ways"):
        return [row[0] for row in parts[0]]
    return {"all": parts[0], "folded": parts[0], "lots": sum(parts[:2], []), "shut": parts[-1]}.get(name, [])


def closed_faults(look, standings, renamed=lambda standing: standing):
    listed = set(standings)
    faults = [] if renamed(begin(look.plan)) in listed else ["no beginning"]
    for standing in standings:
        if not look.is_final(standing):
            faults += ["end not in it" for deed, end in look.ends[standing] if renamed(end) not in listed]
    return faults


def all_faults(look, standings):
    faults = list_faults(look, standings)
    return faults or closed_faults(look, standings) + ["bad" for standing in standings if look.is_bad(standing)]


def folded_faults(look, standings):
    faults = list_faults(look, standings)
    if faults:
        return faults
    faults += ["bad" for standing in standings if look.is_bad(standing)]
    faults += ["not the least" for standing in standings if look.least(standing) != standing]
    return faults + closed_faults(look, standings, look.least)


def thinned_faults(look, rows):
    faults = list_faults(look, [row[0] for row in rows])
    if faults:
        return faults
    numbers = {standing: number for standing, hand, number in rows}
    if not rows or rows[0][0] != begin(look.plan):
        faults.append("first row")
    for standing, hand, number in rows:
        if look.is_bad(standing):
            faults.append("bad")
        if number < 0:
            faults.append("number")
        if look.is_final(standing):
            faults += [] if hand is None else ["final with a hand"]
        elif hand is None:
            faults += ["end not in it" for deed, end in look.ends[standing] if end not in numbers]
        else:
            faults += thin_row_faults(look, standing, hand, number, numbers)
    return faults


def thin_row_faults(look, standing, hand, number, numbers):
    if hand not in range(len(standing[0])):
        return ["no hand"]
    faults = [] if is_quiet(look.plan, standing, hand) else ["not quiet"]
    ends = [end for deed, end in look.ends[standing] if deed[:2] == ("step", hand)]
    if not ends:
        faults.append("no step")
    for end in ends:
        faults += ["seen" for fact in look.saying[1:] if sees(look.plan, fact, hand, standing, end)]
        faults += [] if numbers.get(end, number) < number else ["no lesser number"]
    return faults


def walk(look, deeds, start=None):
    """The standings, or None where a deed is not possible."""
    standings = [begin(look.plan) if start is None else start]
    for deed in deeds:
        try:
            standings.append(do(look.plan, standings[-1], deed))
        except NoDeed:
            return None
    return standings


def run_faults(look, deeds):
    standings = walk(look, deeds)
    if standings is None:
        return ["no run"]
    bads = [look.is_bad(standing) for standing in standings]
    faults = [] if bads == [False] * len(deeds) + [True] else ["not just the last one bad"]
    return faults + ["final" for standing in standings if look.is_final(standing)]


def awaited(look):
    return look.facts[-1]


def awaiting(look):
    """By the words of point 24: standings that come without what is awaited, gone on from until nothing is new."""
    goal = awaited(look)
    if look.saying[0] == "at last":
        found = {begin(look.plan)}
    else:
        found = {standing for standing in look.web if look.facts[0][standing]}
    found = {standing for standing in found if not goal[standing]}
    grown = True
    while grown:
        more = {end for standing in found for deed, end in look.ends[standing] if not goal[end]}
        grown = not more <= found
        found |= more
    return found


def lots_faults(look, standings, rows, lots):
    faults = list_faults(look, standings) + list_faults(look, rows)
    if faults:
        return faults
    faults += closed_faults(look, standings)
    goal = awaited(look)
    listed = set(rows)
    if look.saying[0] == "at last":
        needed = {standing for standing in standings if not goal[standing]}
    else:
        needed = {standing for standing in standings if look.facts[0][standing] and not goal[standing]}
    needed |= {end for standing in rows for deed, end in look.ends[standing] if not goal[end]}
    faults += [] if needed | awaiting(look) <= listed else ["awaiting one not in rows"]
    faults += ["dry" for standing in rows if not look.ends[standing]]
    edges = {place: [(deed, rows.index(end)) for deed, end in look.ends[standing] if end in listed]
             for place, standing in enumerate(rows)}
    return faults + lot_list_faults(look, rows, edges, lots, list(range(len(rows))))


def lot_list_faults(look, rows, edges, lots, places):
    if sorted(place for lot in lots for place in lot[0]) != sorted(places):
        return ["places not each once"]
    home = {place: number for number, lot in enumerate(lots) for place in lot[0]}
    faults = ["leads to an earlier lot" for place in places for deed, end in edges[place]
              if end in home and home[end] < home[place]]
    for inner, wish, rest in lots:
        faults += lot_faults(look, rows, edges, inner, wish, rest)
    return faults


def lot_faults(look, rows, edges, places, wish, rest):
    if not places:
        return ["lot without places"]
    inner = [deed for place in places for deed, end in edges[place] if end in places]
    if not inner:
        return [] if wish is None and rest == [] else ["wish without need"]
    if wish not in list(look.hand_wishes()):
        return ["no wish of the plan"]
    own = look.hand_wishes()[wish]
    faults = ["done within the lot" for deed in inner if done_by(look.plan, own, deed)]
    left = [place for place in places if not look.is_able(rows[place], own)]
    if wish[0] == "weak":
        return faults + ([] if left == [] and rest == [] else ["weak wish not able somewhere"])
    faults += [] if len(left) < len(places) else ["strong wish able nowhere"]
    return faults + lot_list_faults(look, rows, edges, rest, left)


def waits_in_vain(look, standings):
    goal = awaited(look)
    if look.saying[0] == "at last":
        return not any(goal[standing] for standing in standings)
    return any(look.facts[0][standing] and not any(goal[other] for other in standings[place:])
               for place, standing in enumerate(standings))


def round_faults(look, deeds, more):
    standings = walk(look, deeds)
    around = None if standings is None else walk(look, more, standings[-1])
    if around is None or not more:
        return ["no run and round"]
    faults = [] if around[-1] == around[0] else ["doesn't come back"]
    faults += [] if waits_in_vain(look, standings) else ["not awaited in vain"]
    faults += ["what is awaited comes on the round" for standing in around if awaited(look)[standing]]
    for wish in wishes_of(look.plan):
        ables = [look.is_able(standing, wish) for standing in around]
        kept = not all(ables) if look.plan[2][wish[0]][0] == "weak" else not any(ables)
        faults += [] if kept or any(done_by(look.plan, wish, deed) for deed in more) else ["wish not kept"]
    return faults


def end_faults(look, deeds):
    standings = walk(look, deeds)
    if standings is None:
        return ["no run"]
    faults = [] if not look.ends[standings[-1]] else ["not dry"]
    return faults + ([] if waits_in_vain(look, standings) else ["not awaited in vain"])


def ways_faults(look, rows):
    faults = list_faults(look, [row[0] for row in rows])
    if faults:
        return faults
    numbers = dict(rows)
    faults += ["number" for number in numbers.values() if number < 0]
    faults += closed_faults(look, list(numbers))
    for standing, number in rows:
        if not look.facts[0][standing]:
            ends = [numbers[end] for deed, end in look.ends[standing] if end in numbers]
            faults += [] if ends and min(ends) < number else ["can't be walked down"]
    return faults


def shut_faults(look, deeds, standings):
    run = walk(look, deeds)
    if run is None:
        return ["no run"]
    faults = list_faults(look, standings)
    if faults:
        return faults
    faults += [] if run[-1] in standings else ["run leads elsewhere"]
    faults += ["end not in it" for standing in standings for deed, end in look.ends[standing] if end not in standings]
    return faults + ["fact stands" for standing in standings if look.facts[0][standing]]


def whole_faults(look, rows):
    faults = list_faults(look, [row[0] for row in rows])
    if faults or not rows or rows[0] != (begin(look.plan), None, None):
        return faults or ["first row"]
    for place, (standing, ahead, deed) in enumerate(rows[1:], 1):
        if ahead not in range(place) or (deed, standing) not in look.ends[rows[ahead][0]]:
            faults.append("row")
    return faults + ([] if {row[0] for row in rows} == set(look.web) else ["not all"])


FAULTS = {
    (SAFETY, "yes"): {"all": all_faults, "folded": folded_faults, "thinned": thinned_faults},
    (SAFETY, "no"): {"run": run_faults},
    (("at last", "whenever"), "yes"): {"lots": lots_faults},
    (("at last", "whenever"), "no"): {"round": round_faults, "end": end_faults},
    (("always can",), "yes"): {"ways": ways_faults},
    (("always can",), "no"): {"shut": shut_faults},
}


def paper_faults(look, word, paper):
    """What anything at all lacks of being a paper for that word."""
    if not has_shape(look, paper):
        return ["no such form"]
    if has_knowing(look.saying) != (paper[0] == "whole"):
        return ["whole without knowing, or knowing without whole"]
    if paper[0] == "whole":
        faults = whole_faults(look, paper[1])
        paper = paper[2]
        if faults or not has_shape(look, paper) or paper[0] in ("folded", "thinned"):
            return faults + ["no such paper within"]
    if paper[0] == "thinned" and not is_plain_saying(look.saying):
        return ["thinned for a fact that isn't plain"]
    for (kinds, known), papers in FAULTS.items():
        if look.saying[0] in kinds and word == known and paper[0] in papers:
            return papers[paper[0]](look, *paper[1:])
    return ["no such paper"]


def is_right(look, word, paper):
    return paper_faults(look, word, paper) == []


def faults_of(look, told, way="all"):
    """What an answer by that way lacks, which has standings alone that come."""
    word, paper = told
    faults = [] if isinstance(told, tuple) else ["no tuple"]
    faults += paper_faults(look, word, paper)
    if faults:
        return faults
    inner = paper[2] if paper[0] == "whole" else paper
    if look.saying[0] in SAFETY and word == "yes" and inner[0] != (way if is_plain_saying(look.saying) else "all"):
        faults.append("not of the way asked for")
    return faults + ["can't come" for standing in standings_told(paper) if standing not in look.coming]
