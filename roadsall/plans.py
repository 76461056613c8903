"""Plans: looked at, read from their text and shown as one."""

from roadsall.errors import NoLine, NoPlan
from roadsall.lines import read_cell_line, read_family_line, read_road_line, read_step_line, read_who_line
from roadsall.lines import read_wish_line, shown_family_lines, shown_road_line, shown_wish_line
from roadsall.names import ROAD_KINDS, WAYS, WISH_KINDS, are_unlike_names, is_name
from roadsall.words import names_in

MOST_FAMILIES = 4
MOST_HANDS = 5
MOST_ROOMS = 8
MOST_CELLS = 3
MOST_WHOS = 2
MOST_STEPS = 8
MOST_ROADS = 8
MOST_WISHES = 6
MOST_LETTERS_ON_ROAD = 3
WIDEST_CELL = 9

# The order of the lines; a line may not stand behind one of a higher rank, but for a new family.
RANKS = {"family": 0, "cell": 1, "who": 2, "step": 3, "road": 4, "wish": 5}
FAMILY_RANK = 0
ROAD_RANK = 4


def check_plan(plan):
    if not is_plan(plan):
        raise NoPlan()


def is_plan(plan):
    families, roads, wishes = plan
    if not (are_families(families) and are_roads(roads, families)):
        return False
    for family in families:
        if not all([is_step(step, family, families, roads) for step in family[5]]):
            return False
    return len(wishes) <= MOST_WISHES and all([is_wish(wish, families) for wish in wishes])


def are_families(families):
    if not 1 <= len(families) <= MOST_FAMILIES:
        return False
    if not are_unlike_names([family[0] for family in families]):
        return False
    # Each family is asked for one hand at least, so the sum can't be too small.
    if not all([is_family(family) for family in families]):
        return False
    return sum([family[1] for family in families]) <= MOST_HANDS


def is_family(family):
    name, many, rooms, cells, whos, steps = family
    cell_names = [cell[0] for cell in cells]
    if many < 1 or not 1 <= len(rooms) <= MOST_ROOMS:
        return False
    if len(cells) > MOST_CELLS or len(whos) > MOST_WHOS or len(steps) > MOST_STEPS:
        return False
    if not are_unlike_names(rooms) or not are_unlike_names(cell_names + whos):
        return False
    if "it" in cell_names or not are_unlike_names([step[0] for step in steps]):
        return False
    return all([is_cell(cell) for cell in cells])


def is_cell(cell):
    name, low, high, start = cell
    return 0 <= high - low <= WIDEST_CELL and low <= start <= high


def are_roads(roads, families):
    names = [family[0] for family in families]
    if len(roads) > MOST_ROADS or not all([is_road(road, names) for road in roads]):
        return False
    return len(set([road[:2] for road in roads])) == len(roads)


def is_road(road, names):
    one, other, kind, room, loses, doubles = road
    return one in names and other in names and kind in ROAD_KINDS and 1 <= room <= MOST_LETTERS_ON_ROAD


def is_wish(wish, families):
    kind, name, step = wish
    if kind not in WISH_KINDS:
        return False
    for family in families:
        if family[0] == name:
            return step in [known[0] for known in family[5]]
    return False


def is_step(step, family, families, roads):
    name, at, when, take, changes, sends, go = step
    rooms = family[2]
    cells = [cell[0] for cell in family[3]]
    if at not in rooms or go not in rooms or not are_among(names_in(when), cells):
        return False
    if take is not None and not is_take(take, family, cells, roads):
        return False
    known = cells if take is None else cells + ["it"]
    if not are_changes(changes, take, cells, known):
        return False
    return all([is_send(send, family, known, roads) for send in sends])


def are_among(names, known):
    return all([name in known for name in names])


def is_take(take, family, cells, roads):
    mark, sender, cell, who = take
    if not is_name(mark) or not leads(roads, sender, family[0]):
        return False
    return (cell == "" or cell in cells) and (who == "" or who in family[4])


def are_changes(changes, take, cells, known):
    changed = [change[0] for change in changes]
    if not are_among(changed, cells) or len(set(changed)) != len(changed):
        return False
    if take is not None and take[2] in changed:
        return False
    return all([are_among(names_in(change[1]), known) for change in changes])


def is_send(send, family, known, roads):
    mark, amount, way, target = send
    if not is_name(mark) or way not in WAYS or not are_among(names_in(amount), known):
        return False
    if way == "who":
        return target in family[4]
    return leads(roads, family[0], target)


def leads(roads, one, other):
    # The families of a road are looked at with the roads, so a road that leads there tells the family too.
    return any([road[0] == one and road[1] == other for road in roads])


def read_plan(text):
    plan = ([], [], [])
    rank = -1
    for number, line in enumerate(text.split("\n")):
        word = line.split(" ")[0]
        if word not in RANKS or not may_follow(RANKS[word], rank):
            raise NoLine(number)
        rank = RANKS[word]
        read_line(plan, word, line, number)
    check_plan(plan)
    return plan


def may_follow(rank, ahead):
    if rank == FAMILY_RANK:
        return ahead < ROAD_RANK
    if rank < ROAD_RANK:
        return FAMILY_RANK <= ahead <= rank
    return ahead <= rank


def read_line(plan, word, line, number):
    families, roads, wishes = plan
    if word == "family":
        families.append(read_family_line(line, number))
    elif word == "cell":
        families[-1][3].append(read_cell_line(line, number))
    elif word == "who":
        families[-1][4].append(read_who_line(line, number))
    elif word == "step":
        families[-1][5].append(read_step_line(line, number))
    elif word == "road":
        roads.append(read_road_line(line, number))
    else:
        wishes.append(read_wish_line(line, number))


def shown_plan(plan):
    families, roads, wishes = plan
    lines = []
    for family in families:
        lines.extend(shown_family_lines(family))
    for road in roads:
        lines.append(shown_road_line(road))
    for wish in wishes:
        lines.append(shown_wish_line(wish))
    return "\n".join(lines)
