"""Papers bent at one place, and right ones put in another order."""

JUNK = (None, True, False, 0, 1, -1, 2, 1000, "", "x", "yes", (), [], ("x",), [None], ((), ()))


def with_part(thing, place, part):
    parts = list(thing)
    parts[place:place + 1] = part
    return type(thing)(parts)


def bent_here(thing):
    """The thing itself exchanged, or one of its pieces left out, put twice, put besides or out of its order."""
    yield from (junk for junk in JUNK if type(junk) is not type(thing) or junk != thing)
    if isinstance(thing, (list, tuple)):
        yield tuple(thing) if isinstance(thing, list) else list(thing)
        for place, part in enumerate(thing):
            yield with_part(thing, place, [])
            yield with_part(thing, place, [part, part])
            if place > 0 and thing[place - 1] != part:
                yield with_part(with_part(thing, place, [thing[place - 1]]), place - 1, [part])
            if place > 0 and thing[0] != part:
                yield with_part(thing, place, [thing[0]])
        for junk in JUNK:
            yield type(thing)(list(thing) + [junk])
    elif isinstance(thing, int):
        yield from (thing - 1, thing + 1)


def bends(thing):
    """Each way to bend it at one place, however deep."""
    yield from bent_here(thing)
    if isinstance(thing, (list, tuple)):
        for place, part in enumerate(thing):
            for bent in bends(part):
                yield with_part(thing, place, [bent])


def places_in(thing):
    found = [()]
    if isinstance(thing, (list, tuple)):
        for place, part in enumerate(thing):
            found += [(place,) + deeper for deeper in places_in(part)]
    return found


def bent_at(thing, place, chance):
    """Bent by chance at that place."""
    if not place:
        return chance.choice(list(bent_here(thing)))
    return with_part(thing, place[0], [bent_at(thing[place[0]], place[1:], chance)])


def mixed(chance, things):
    return chance.sample(things, len(things))


def reordered_lots(chance, lots, places):
    """The same lots where rows' places have become others; what must stand in order stays."""
    return [(mixed(chance, [places[place] for place in lot]), wish, reordered_lots(chance, rest, places))
            for lot, wish, rest in lots]


def reordered_rows(chance, rows):
    """The whole going in another order: each row comes somewhere behind the one that is ahead of it."""
    order = [0]
    waiting = list(range(1, len(rows)))
    while waiting:
        ready = [place for place in waiting if rows[place][1] in order]
        order.append(chance.choice(ready))
        waiting.remove(order[-1])
    return [rows[0]] + [(rows[place][0], order.index(rows[place][1]), rows[place][2]) for place in order[1:]]


def reordered(chance, paper):
    """A right paper with its lists in other orders and with other numbers, so that it stays right."""
    name, parts = paper[0], paper[1:]
    if name in ("all", "folded"):
        return (name, mixed(chance, parts[0]))
    if name == "thinned":
        return (name, [(standing, hand, 3 * number + 5) for standing, hand,
                number in parts[0][:1] + mixed(chance, parts[0][1:])])
    if name == "ways":
        return (name, [(standing, 2 * number + 7) for standing, number in mixed(chance, parts[0])])
    if name == "shut":
        return (name, parts[0], mixed(chance, parts[1]))
    if name == "lots":
        order = mixed(chance, list(range(len(parts[1]))))
        places = {old: new for new, old in enumerate(order)}
        rows = [parts[1][old] for old in order]
        return (name, mixed(chance, parts[0]), rows, reordered_lots(chance, parts[2], places))
    if name == "round":
        # Once more around, or begun one deed later.
        return chance.choice([(name, parts[0], parts[1] * 2),
        (name, parts[0] + parts[1][:1], parts[1][1:] + parts[1][:1])])
    if name == "whole":
        return (name, reordered_rows(chance, parts[0]), reordered(chance, parts[1]))
    return paper
