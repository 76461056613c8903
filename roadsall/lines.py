"""The lines of a plan's text, one for each thing: read and shown."""

from roadsall.errors import NoLine, NoText
from roadsall.names import ROAD_KINDS, WAYS, WISH_KINDS, are_names, is_name, is_number, is_signed_number
from roadsall.words import read_condition, read_sum, shown_condition, shown_sum


def need(truth, number):
    if not truth:
        raise NoLine(number)


def read_family_line(line, number):
    words = line.split(" ")
    need(len(words) >= 4 and is_name(words[1]) and is_number(words[2]) and are_names(words[3:]), number)
    return (words[1], int(words[2]), words[3:], [], [], [])


def read_cell_line(line, number):
    words = line.split(" ")
    need(len(words) == 5 and is_name(words[1]), number)
    need(all([is_signed_number(word) for word in words[2:]]), number)
    return (words[1], int(words[2]), int(words[3]), int(words[4]))


def read_who_line(line, number):
    words = line.split(" ")
    need(len(words) == 2 and is_name(words[1]), number)
    return words[1]


def read_road_line(line, number):
    words = line.split(" ")
    need(len(words) >= 5 and are_names(words[1:3]) and words[3] in ROAD_KINDS and is_number(words[4]), number)
    flaws = words[5:]
    need(flaws in ([], ["loses"], ["doubles"], ["loses", "doubles"]), number)
    return (words[1], words[2], words[3], int(words[4]), "loses" in flaws, "doubles" in flaws)


def read_wish_line(line, number):
    words = line.split(" ")
    need(len(words) == 4 and words[1] in WISH_KINDS and are_names(words[2:]), number)
    return (words[1], words[2], words[3])


def read_step_line(line, number):
    head, colon, body = line.partition(": ")
    words = head.split(" ")
    need(colon != "" and len(words) == 2 and is_name(words[1]), number)
    parts = body.split("; ")
    need(len(parts) >= 2, number)
    at = read_room_part(parts[0], "at", number)
    go = read_room_part(parts[-1], "go", number)
    when, take, changes, sends = read_middle_parts(parts[1:-1], number)
    return (words[1], at, when, take, changes, sends, go)


def read_room_part(part, word, number):
    words = part.split(" ")
    need(len(words) == 2 and words[0] == word and is_name(words[1]), number)
    return words[1]


def read_middle_parts(parts, number):
    when = ("true",)
    take = None
    changes = []
    sends = []
    # The parts of each word stand together, so what each of them leaves is for the words behind it.
    whens, rest = parted(parts, "when ")
    takes, rest = parted(rest, "take ")
    sets, rest = parted(rest, "set ")
    posts, rest = parted(rest, "send ")
    need(len(whens) <= 1 and len(takes) <= 1 and len(rest) == 0, number)
    for part in whens:
        when = read_when_part(part, number)
    for part in takes:
        take = read_take_part(part, number)
    for part in sets:
        changes.append(read_set_part(part, number))
    for part in posts:
        sends.append(read_send_part(part, number))
    return (when, take, changes, sends)


def parted(parts, beginning):
    many = 0
    while many < len(parts) and parts[many].startswith(beginning):
        many += 1
    return (parts[:many], parts[many:])


def read_when_part(part, number):
    try:
        condition = read_condition(part[len("when "):])
    except NoText:
        raise NoLine(number) from None
    need(condition != ("true",), number)
    return condition


def read_take_part(part, number):
    words = part.split(" ")
    need(len(words) >= 4 and is_name(words[1]) and words[2] == "from" and is_name(words[3]), number)
    cell, rest = read_tail(words[4:], "into")
    who, rest = read_tail(rest, "by")
    need(len(rest) == 0, number)
    return (words[1], words[3], cell, who)


def read_tail(words, word):
    if len(words) >= 2 and words[0] == word and is_name(words[1]):
        return (words[1], words[2:])
    return ("", words)


def read_set_part(part, number):
    name, blank, text = part[len("set "):].partition(" ")
    need(blank != "" and is_name(name), number)
    return (name, read_line_sum(text, number))


def read_send_part(part, number):
    mark, blank, rest = part[len("send "):].partition(" ")
    text, end, target = rest.rpartition(" to ")
    words = target.split(" ")
    need(blank != "" and is_name(mark) and end != "", number)
    need(len(words) == 2 and words[0] in WAYS and is_name(words[1]), number)
    return (mark, read_line_sum(text, number), words[0], words[1])


def read_line_sum(text, number):
    try:
        return read_sum(text)
    except NoText:
        raise NoLine(number) from None


def shown_family_lines(family):
    name, many, rooms, cells, whos, steps = family
    names = " ".join(rooms)
    lines = [f"family {name} {many} {names}"]
    for cell, low, high, start in cells:
        lines.append(f"cell {cell} {low} {high} {start}")
    for who in whos:
        lines.append(f"who {who}")
    for step in steps:
        lines.append(shown_step_line(step))
    return lines


def shown_step_line(step):
    name, at, when, take, changes, sends, go = step
    parts = [f"at {at}"]
    if when != ("true",):
        condition = shown_condition(when)
        parts.append(f"when {condition}")
    if take is not None:
        parts.append(shown_take_part(take))
    for cell, amount in changes:
        text = shown_sum(amount)
        parts.append(f"set {cell} {text}")
    for mark, amount, way, target in sends:
        text = shown_sum(amount)
        parts.append(f"send {mark} {text} to {way} {target}")
    parts.append(f"go {go}")
    body = "; ".join(parts)
    return f"step {name}: {body}"


def shown_take_part(take):
    mark, family, cell, who = take
    text = f"take {mark} from {family}"
    if cell != "":
        text += f" into {cell}"
    if who != "":
        text += f" by {who}"
    return text


def shown_road_line(road):
    one, other, kind, room, loses, doubles = road
    text = f"road {one} {other} {kind} {room}"
    if loses:
        text += " loses"
    if doubles:
        text += " doubles"
    return text


def shown_wish_line(wish):
    kind, family, step = wish
    return f"wish {kind} {family} {step}"
