"""Second ways to the same answers, slow and plain, and plans and facts by chance (always the same ones)."""

import itertools
import random

from roadsall.plans import check_plan
from roadsall.standings import begin, ends_from, families_of, pairs_of
from roadsall.words import compared, holds, read_condition, read_sum


def first_rows(plan, most):
    """The whole going, or None where it has more rows than most."""
    rows = [(begin(plan), None, None)]
    known = {begin(plan)}
    for ahead, row in enumerate(rows):
        for deed, end in ends_from(plan, row[0]):
            if end not in known:
                known.add(end)
                rows.append((end, ahead, deed))
                if len(rows) > most:
                    return None
    return rows


def all_renamings(plan):
    homes = families_of(plan)
    return [order for order in itertools.permutations(range(len(homes)))
            if all(homes[hand] == homes[other] for hand, other in enumerate(order))]


def moved(plan, standing, renaming):
    name = {-1: -1, **dict(enumerate(renaming))}
    hands = {name[hand]: (room, cells, tuple(name[who] for who in whos))
             for hand, (room, cells, whos) in enumerate(standing[0])}
    pairs = [(one, other) for road, one, other in pairs_of(plan)]
    roads = {(name[one], name[other]): letters for (one, other), letters in zip(pairs, standing[1])}
    return (tuple(hands[hand] for hand in sorted(hands)), tuple(roads[pair] for pair in pairs))


def least_of_all(plan, standing):
    return min((moved(plan, standing, renaming), renaming) for renaming in all_renamings(plan))


def fitting(plan, standing, name, room, condition):
    found = []
    for hand, home in enumerate(families_of(plan)):
        family = plan[0][home]
        place, cells, _ = standing[0][hand]
        values = {cell[0]: number for cell, number in zip(family[3], cells)}
        if family[0] == name:
            found.append(room in ("", family[2][place]) and holds(condition, values))
    return found


def stands(plan, fact, standing, web):
    kind = fact[0]
    if kind == "true":
        return True
    if kind == "not":
        return not stands(plan, fact[1], standing, web)
    if kind == "and":
        return stands(plan, fact[1], standing, web) and stands(plan, fact[2], standing, web)
    if kind == "or":
        return stands(plan, fact[1], standing, web) or stands(plan, fact[2], standing, web)
    if kind == "some":
        return any(fitting(plan, standing, *fact[1:]))
    if kind == "all":
        return all(fitting(plan, standing, *fact[1:]))
    if kind == "many":
        return compared(fact[4], fitting(plan, standing, *fact[1:4]).count(True), fact[5])
    if kind == "letters":
        names = [plan[0][home][0] for home in families_of(plan)]
        marks = [mark for (road, one, other), letters in zip(pairs_of(plan), standing[1])
                 for mark, number in letters if (names[one], names[other]) == fact[1:3] and fact[3] in ("", mark)]
        return compared(fact[4], len(marks), fact[5])
    if kind == "dry":
        return ends_from(plan, standing) == []
    hands = [hand for hand, home in enumerate(families_of(plan)) if plan[0][home][0] == fact[1]]
    knowing = [all(stands(plan, fact[2], other, web) for other in web if other[0][hand] == standing[0][hand])
               for hand in hands]
    return any(knowing) if kind == "some knows" else all(knowing)


def sees(plan, fact, hand, ahead, behind):
    family = plan[0][families_of(plan)[hand]][0]
    place = [other for other, home in enumerate(families_of(plan)) if plan[0][home][0] == family].index(hand)
    if fact[0] in ("not", "and", "or"):
        return any(sees(plan, part, hand, ahead, behind) for part in fact[1:])
    if fact[0] in ("some", "all", "many") and fact[1] == family:
        return fitting(plan, ahead, *fact[1:4])[place] != fitting(plan, behind, *fact[1:4])[place]
    return False


def is_quiet(plan, standing, hand):
    family = plan[0][families_of(plan)[hand]]
    room = family[2][standing[0][hand][0]]
    return all(not step[3] and not step[5] for step in family[5] if step[1] == room)


def thinning_faults(plan, facts, rows, web):
    """What a list of rows lacks of point 19, as words; none where it is a thinned going."""
    faults = []
    listed = {standing: number for standing, hand, number in rows}
    if rows[0][0] != begin(plan):
        faults.append("first row")
    if len(listed) != len(rows):
        faults.append("a standing twice")
    for standing, hand, number in rows:
        ends = ends_from(plan, standing)
        if standing not in web:
            faults.append("can't come")
        if not isinstance(number, int) or number < 0:
            faults.append("number")
        if hand is not None:
            if not is_quiet(plan, standing, hand):
                faults.append("not quiet")
            ends = [end for end in ends if end[0][:2] == ("step", hand)]
            if not ends:
                faults.append("no step")
            if any(sees(plan, fact, hand, standing, end) for deed, end in ends for fact in facts):
                faults.append("seen")
            if any(listed.get(end, -1) >= number for deed, end in ends):
                faults.append("no lesser number")
        if any(end not in listed for deed, end in ends):
            faults.append("end not listed")
    return faults


def chance_cell(chance, name):
    low = chance.choice([-1, 0, 0])
    high = low + chance.choice([0, 1, 2])
    return (name, low, high, chance.randint(low, high))


def chance_sum(chance, names):
    name = chance.choice(names) if names else "1"
    return read_sum(chance.choice(["0", "1", "NAME", "NAME + 1", "1 - NAME", "NAME * 2"]).replace("NAME", name))


def chance_condition(chance, names):
    name = chance.choice(names) if names else "1"
    texts = ["true", "true", "NAME > 0", "NAME = 1", "not NAME = 0", "NAME != 1 or NAME < 0"]
    return read_condition(chance.choice(texts).replace("NAME", name))


def chance_step(chance, place, family, roads):
    name, many, rooms, cells, whos, steps = family
    own = [cell[0] for cell in cells]
    take = None
    sources = [road[0] for road in roads if road[1] == name]
    if place > 0 and sources and chance.random() < 0.6:
        who = chance.choice(whos + whos + [""])
        take = (chance.choice("mmn"), chance.choice(sources), chance.choice(own + [""]), who)
    known = own + ["it"] if take else own
    changes = [(cell, chance_sum(chance, known)) for cell in own
               if chance.random() < 0.4 and not (take and take[2] == cell)]
    targets = [("all", road[1]) for road in roads if road[0] == name]
    targets += [("any", target) for way, target in targets]
    if place > 0:
        targets += [("who", who) for who in whos]
    many_sends = chance.choice([0, 0, 1, 1, 2]) if place > 0 else chance.choice([0, 1])
    sends = [(chance.choice("mmn"), chance_sum(chance, known)) + chance.choice(targets)
             for _ in range(many_sends) if targets]
    # The first steps can be done at the beginning, so that something comes at all.
    when = chance_condition(chance, own) if place > 0 else ("true",)
    return (f"step{'abcdefgh'[place]}", rooms[place % len(rooms)], when, take, changes, sends, chance.choice(rooms))


def chance_plan(seed):
    """A plan by chance: up to three families and four hands, every kind of road, step and wish."""
    chance = random.Random(seed)
    names = ["f", "g", "h"][:chance.choice([1, 2, 2, 3])]
    families = []
    for name in names:
        cells = [chance_cell(chance, cell) for cell in ["c", "d"][:chance.choice([0, 1, 1, 2])]]
        families.append((name, chance.choice([1, 2, 2]) if len(names) < 3 else 1,
                         ["r", "s", "t"][:chance.choice([1, 2, 3])], cells, ["w"][:chance.choice([0, 1])], []))
    if len(names) == 1 and seed % 2:
        families[0] = ("f", 3) + families[0][2:]
    roads = [(one, other, chance.choice(["row", "heap"]), chance.choice([1, 1, 2]), chance.random() < 0.2,
              chance.random() < 0.2) for one in names for other in names if chance.random() < 0.6][:8]
    wishes = []
    for family in families:
        for place in range(chance.choice([2, 3, 3, 4])):
            family[5].append(chance_step(chance, place, family, roads))
        wishes.append((chance.choice(["weak", "strong"]), family[0], chance.choice(family[5])[0]))
    plan = (families, roads, wishes)
    check_plan(plan)
    return plan


def chance_plans(fewest, most, seeds):
    """The plans of these seeds for which so many standings come, each with its seed and its whole going."""
    for seed in seeds:
        plan = chance_plan(seed)
        rows = first_rows(plan, most)
        if rows is not None and len(rows) >= fewest:
            yield seed, plan, rows


def chance_fact(chance, plan, depth, plain=False):
    kinds = ["some", "all", "many", "letters"] + ([] if plain else ["dry", "true"])
    if depth > 0:
        kinds += ["not", "and", "or"] * 2 + ([] if plain else ["some knows", "each knows"] * 2)
    kind = chance.choice(kinds)
    family = chance.choice(plan[0])
    word = chance.choice(["=", "!=", "<", "<=", ">", ">="])
    part = (family[0], chance.choice(family[2] + [""]), chance_condition(chance, [cell[0] for cell in family[3]]))
    if kind in ("some", "all"):
        return (kind,) + part
    if kind == "many":
        return (kind,) + part + (word, chance.choice([0, 1, 2]))
    if kind == "letters":
        return (kind, family[0], chance.choice(plan[0])[0], chance.choice(["m", "n", ""]), word, chance.choice([0, 1, 2]))
    if kind == "not":
        return (kind, chance_fact(chance, plan, depth - 1, plain))
    if kind in ("and", "or"):
        return (kind, chance_fact(chance, plan, depth - 1, plain), chance_fact(chance, plan, depth - 1, plain))
    if kind in ("some knows", "each knows"):
        return (kind, family[0], chance_fact(chance, plan, depth - 1))
    return (kind,)


def chance_walk_plan(seed):
    """One or two families that walk from room to room without letters, with many wishes: for what comes on fair runs."""
    chance = random.Random(seed)
    families = []
    for name in ["f", "g"][:chance.choice([1, 1, 2])]:
        rooms = ["p", "q", "r", "s", "t", "u"][:chance.choice([3, 4, 5, 6])]
        steps = []
        for place in range(8):
            at = rooms[place % len(rooms)] if place < len(rooms) else chance.choice(rooms[:-1])
            steps.append((f"step{'abcdefgh'[place]}", at, ("true",), None, [], [], chance.choice(rooms)))
        families.append((name, chance.choice([1, 1, 1, 2]) if len(families) == 0 else 1, rooms, [], [], steps))
    wishes = []
    for _ in range(chance.choice([0, 1, 2, 3, 4, 5, 6, 6, 6])):
        family = chance.choice(families)
        wishes.append((chance.choice(["weak", "strong", "strong"]), family[0], chance.choice(family[5])[0]))
    plan = (families, [], wishes)
    check_plan(plan)
    return plan


def chance_letters(chance, road):
    letters = [(chance.choice("mn"), chance.randint(-1, 2)) for _ in range(chance.choice([0, 0, 0, 1, road[3]]))]
    return tuple(sorted(letters) if road[2] == "heap" else letters)


def chance_standing(chance, plan):
    """Anything that has the form of a standing of the plan; most such ones can't come."""
    homes = families_of(plan)
    hands = []
    for home in homes:
        name, many, rooms, cells, whos, steps = plan[0][home]
        hands.append((chance.randrange(len(rooms)), tuple(chance.randint(cell[1], cell[2]) for cell in cells),
                      tuple(chance.randint(-1, len(homes) - 1) for _ in whos)))
    return (tuple(hands), tuple(chance_letters(chance, pair[0]) for pair in pairs_of(plan)))


def all_behind(plan, standing, most):
    """The standing and all that come behind it, or None where they are more than most."""
    found = [standing]
    for one in found:
        found += [end for end in dict.fromkeys(end for deed, end in ends_from(plan, one)) if end not in found]
        if len(found) > most:
            return None
    return found
