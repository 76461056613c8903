"""Plans and small tools that several tests start from; plans are made anew at each call."""

from roadsall.plans import read_plan
from roadsall.standings import pairs_of
from roadsall.words import read_condition, read_sum


def step(name, at, go, when="true", take=None, changes=(), sends=()):
    return (name, at, read_condition(when), take, [(cell, read_sum(text)) for cell, text in changes],
            [(mark, read_sum(text), way, target) for mark, text, way, target in sends], go)


def small_plan():
    """Two askers and a server: each part of a step is there somewhere and lacks elsewhere."""
    askers = ("asker", 2, ["idle", "waiting"], [("tries", 0, 3, 0), ("last", -5, 4, -1)], [], [
        step("ask", "idle", "waiting", "tries < 3", None, [("tries", "tries + 1")], [("ask", "tries", "all", "server")]),
        step("hear", "waiting", "idle", "true", ("tell", "server", "last", "")),
    ])
    servers = ("server", 1, ["ready", "busy"], [("held", 0, 9, 0)], ["guest"], [
        step("take", "ready", "busy", "held = 0 or held > 0 and not held = 9", ("ask", "asker", "held", "guest")),
        step("tell", "busy", "ready", "true", None, [], [("tell", "held - 1", "who", "guest")]),
        step("shout", "busy", "busy", "held != 0", ("ask", "asker", "", ""), [("held", "it * 2")],
             [("tell", "it", "any", "asker"), ("tell", "0", "all", "asker")]),
    ])
    roads = [("asker", "server", "row", 2, True, False), ("server", "asker", "heap", 3, False, True)]
    wishes = [("weak", "server", "tell"), ("strong", "asker", "hear")]
    return ([askers, servers], roads, wishes)


SMALL_TEXT = """family asker 2 idle waiting
cell tries 0 3 0
cell last -5 4 -1
step ask: at idle; when tries < 3; set tries tries + 1; send ask tries to all server; go waiting
step hear: at waiting; take tell from server into last; go idle
family server 1 ready busy
cell held 0 9 0
who guest
step take: at ready; when held = 0 or held > 0 and not held = 9; take ask from asker into held by guest; go busy
step tell: at busy; send tell held - 1 to who guest; go ready
step shout: at busy; when held != 0; take ask from asker; set held it * 2; send tell it to any asker; send tell 0 to all asker; go busy
road asker server row 2 loses
road server asker heap 3 doubles
wish weak server tell
wish strong asker hear"""


def plain_family(name="f", many=1, rooms=("r",), cells=(), whos=(), steps=()):
    return (name, many, list(rooms), list(cells), list(whos), list(steps))


def told(hand, name, letter=None, hands=()):
    return ("step", hand, name, letter, hands)


def with_hand(standing, hand, own):
    hands = standing[0]
    return (hands[:hand] + (own,) + hands[hand + 1:], standing[1])


def with_roads(plan, standing, letters):
    pairs = [(one, other) for road, one, other in pairs_of(plan)]
    assert set(letters) <= set(pairs)
    return (standing[0], tuple(letters.get(pair, road) for pair, road in zip(pairs, standing[1])))


def on_road(plan, standing, one, other):
    pairs = [(first, second) for road, first, second in pairs_of(plan)]
    return standing[1][pairs.index((one, other))]


def cells_plan(more=""):
    """One hand by itself, for which just 2,000 standings come: two rooms with three cells of ten numbers."""
    return read_plan(f"""family f 1 r s t
cell a 0 9 0
cell b 0 9 0
cell c 0 9 0
step ra: at r; set a a + 1; go r
step rb: at r; set b b + 1; go r
step rc: at r; set c c + 1; go r
step over: at r; go s
step sa: at s; set a a + 1; go s
step sb: at s; set b b + 1; go s
step sc: at s; set c c + 1; go s{more}""")


def one_more_plan():
    """The same with one standing more, 2,001."""
    return cells_plan("\nstep end: at s; when a + b + c = 27; go t")


def ring_plan(more=""):
    """One hand that counts to 999 in one room and then in another, and begins anew: 2,000 standings, one round."""
    lines = ["family f 1 r s", "cell a 0 9 0", "cell b 0 9 0", "cell c 0 9 0"]
    for room, other in ["rs", "sr"]:
        lines += [f"step {room}a: at {room}; when a < 9; set a a + 1; go {room}",
                  f"step {room}b: at {room}; when a = 9 and b < 9; set a 0; set b b + 1; go {room}",
                  f"step {room}c: at {room}; when a = 9 and b = 9 and c < 9; set a 0; set b 0; set c c + 1; go {room}",
                  f"step {room}d: at {room}; when a = 9 and b = 9 and c = 9; set a 0; set b 0; set c 0; go {other}"]
    return read_plan("\n".join(lines) + more)


# Two askers enter by turns, as the guard lets one of them in at a time.
LOCK = """family f 2 out wait in
step ask: at out; send ask 0 to all g; go wait
step enter: at wait; take grant from g; go in
step leave: at in; send free 0 to all g; go out
family g 1 idle busy
who w
step grant: at idle; take ask from f by w; send grant 0 to who w; go busy
step free: at busy; take free from f; go idle
road f g row 2
road g f row 1"""

# A letter that may be lost is sent again and again.
RESEND = """family f 1 r
step send: at r; send m 0 to all g; go r
family g 1 deaf sure
step hear: at deaf; take m from f; go sure
road f g row 1 loses"""


def some(family, room="", when="true"):
    return ("some", family, room, read_condition(when))


def every(family, room="", when="true"):
    return ("all", family, room, read_condition(when))


def many(family, room, word, number, when="true"):
    return ("many", family, room, read_condition(when), word, number)
