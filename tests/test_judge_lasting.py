"""Papers for at last, whenever and always can, made by hand: right ones, and ones that lack just one thing."""

import unittest

from roadsall.judge import judge
from roadsall.plans import read_plan
from judging import LINE, NOT_TRUE, OUT, PAIR, TRUE, JudgeCase, deeds_of, room
from samples import every, some, told


class LotsTest(JudgeCase):
    def test_no_wishes(self):
        plan = read_plan(PAIR.replace("2 r", "1 r"))
        r, s, t = [room(place) for place in range(3)]
        lots = [([0], None, []), ([1], None, [])]
        saying = ("at last", some("f", "t"))
        self.right(plan, saying, "yes", ("lots", [r, s, t], [r, s], lots),
                   ("lots", [t, s, r], [s, r], [([1], None, []), ([0], None, [])]))
        self.wrong(plan, saying, "yes", ("lots", [r, s, t], [r, s], lots[::-1]), ("lots", [r, s, t], [s, r], lots),
                   ("lots", [r, s, t], [r, s], [([0, 1], None, [])]), ("lots", [r, s, t], [r, s], lots[:1]),
                   ("lots", [r, s, t], [r, s], []),
                   ("lots", [r, s, t], [r, s], lots + lots[1:]), ("lots", [r, s, t], [r], lots[:1]),
                   ("lots", [r, s], [r, s], lots),
                   ("lots", [r, s, t], [s], [([0], None, [])]), ("lots", [s, t], [r, s], lots),
                   ("lots", [r, t], [r, s], lots),
                   ("lots", [r, s, t], [r, s], lots + [([], None, [])]),
                   ("lots", [r, s, t], [r, s, t], lots + [([2], None, [])]),
                   ("lots", [r, s, t, t], [r, s], lots), ("lots", [r, s, t], [r, s, s], lots + [([2], None, [])]),
                   ("lots", [r, s, t], [r, s], [([0], None, []), ([1, 1], None, [])]),
                   ("lots", [r, s, t], [r, s], [([0], None, []), ([2], None, [])]),
                   ("lots", [r, s, t], [r, s], [([0], None, []), ([-1], None, [])]),
                   ("lots", [r, s, t], [r, s], [([0], None, None), ([1], None, [])]),
                   ("lots", [r, s, t], [r, s], [([0], None, ()), ([1], None, [])]),
                   ("lots", [r, s, t], [r, s], [([0], (), []), ([1], None, [])]),
                   ("lots", [r, s, t], [r, s], [((0,), None, []), ([1], None, [])]),
                   ("lots", [r, s, t], [r, s], [[[0], None, []], ([1], None, [])]),
                   ("lots", [r, s, t], [r, s], tuple(lots)), ("lots", [r, s, t], (r, s), lots),
                   ("lots", (r, s, t), [r, s], lots),
                   ("lots", [r, s, t], [r, s]), ("lots", [r, s, t], [r, s], lots, []),
                   ["lots", [r, s, t], [r, s], lots],
                   ("lots", [r, s, t], [r, s], [([0], None), ([1], None, [])]),
                   ("lots", [r, s, t], [r, s], [([0], None, [([0], None, [])]), ([1], None, [])]),
                   ("lots", [r, s, t], [r, s], [(["r"], None, []), ([1], None, [])]),
                   ("lots", [r, s, t], [r, s], [(0, None, []), ([1], None, [])]))
        self.right(plan, ("whenever", some("f", "r"), some("f", "t")), "yes", ("lots", [r, s, t], [r, s], lots))
        self.right(plan, ("whenever", some("f", "s"), some("f", "t")), "yes",
                   ("lots", [r, s, t], [s], [([0], None, [])]),
                   ("lots", [r, s, t], [r, s], lots))
        self.wrong(plan, ("whenever", some("f", "s"), some("f", "t")), "yes", ("lots", [r, s, t], [], []),
                   ("lots", [r, s], [s], [([0], None, [])]),
                   ("lots", [s, t], [s], [([0], None, [])]),
                   ("lots", [r, s, t], [s, t], [([0], None, []), ([1], None, [])]))

    def test_behind_the_fact(self):
        plan = read_plan("family f 1 r s t u\nstep a: at r; go s\nstep b: at s; go t\nstep c: at t; go u\nstep d: at u; go t")
        r, s, t, u = [room(place) for place in range(4)]
        saying = ("at last", some("f", "s"))
        self.right(plan, saying, "yes", ("lots", [r, s], [r], [([0], None, [])]))
        # A standing without the fact, though it can't come ahead of it, is awaiting by the list's own word.
        self.wrong(plan, saying, "yes", ("lots", [r, s, t, u], [r], [([0], None, [])]),
                   ("lots", [r], [r], [([0], None, [])]))
        self.right(plan, ("whenever", some("f", "s"), some("f", "t")), "yes",
                   ("lots", [r, s, t, u], [s], [([0], None, [])]))
        self.wrong(plan, ("whenever", some("f", "s"), some("f", "t")), "yes", ("lots", [r, s], [s], [([0], None, [])]))
        self.right(plan, ("whenever", some("f", "s"), some("f", "s")), "yes", ("lots", [r, s, t, u], [], []))
        # Where t is awaited, rows besides may have the fact itself, as far as their ends without it are rows too.
        saying = ("at last", some("f", "t"))
        self.right(plan, saying, "yes", ("lots", [r, s, t], [r, s], [([0], None, []), ([1], None, [])]))
        self.wrong(plan, saying, "yes", ("lots", [r, s, t], [r, s, t], [([place], None, []) for place in range(3)]))
        self.wrong(plan, saying, "yes", ("lots", [r, s, t, u], [r, s], [([0], None, []), ([1], None, [])]))
        self.right(plan, saying, "yes", ("lots", [r, s, t, u], [r, s, u],
                   [([0], None, []), ([1], None, []), ([2], None, [])]))
        self.wrong(plan, saying, "yes", ("lots", [r, s, t], [r, s, t, u], [([place], None, []) for place in range(4)]))

    def test_rows_besides(self):
        plan = read_plan("""family f 1 r s t u w
step rs: at r; go s
step st: at s; go t
step tu: at t; go u
step ut: at u; go t
step leave: at t; go w
step ws: at w; go s
wish strong f leave""")
        r, s, t, u, w = [room(place) for place in range(5)]
        saying = ("at last", ("or", some("f", "t"), some("f", "w")))
        lots = [([0], None, []), ([1], None, [])]
        both = ([2, 3], ("strong", 0, "leave"), [([3], None, [])])
        self.right(plan, saying, "yes", ("lots", [r, s, t], [r, s], lots))
        # What has the fact may be a row, and so may what comes behind it alone, as long as the lots hold.
        self.right(plan, saying, "yes", ("lots", [r, s, t], [r, s, t, u], lots + [both]),
                   ("lots", [r, s, t], [r, s, u], lots + [([2], None, [])]),
                   ("lots", [w, r, s, t], [r, s, w], [([2], None, [])] + lots))
        self.wrong(plan, saying, "yes", ("lots", [r, s, t], [r, s, t], lots + [([2], None, [])]),
                   ("lots", [r, s, t], [r, s, t, u], lots + [([2], None, []), ([3], None, [])]),
                   ("lots", [r, s, t], [r, s, w], lots + [([2], None, [])]), ("lots", [r, s, t, u], [r, s], lots))
        # From w, which is besides here, s comes without t, so s is a row too.
        saying = ("whenever", some("f", "u"), some("f", "t"))
        self.right(plan, saying, "yes", ("lots", [r, s, t, u, w], [u], [([0], None, [])]),
                   ("lots", [r, s, t, u, w], [u, w, s], [([0], None, []), ([1], None, []), ([2], None, [])]))
        self.wrong(plan, saying, "yes", ("lots", [r, s, t, u, w], [u, w], [([0], None, []), ([1], None, [])]),
                   ("lots", [r, s, t, u], [u], [([0], None, [])]))

    def test_dry_rows(self):
        plan = read_plan(PAIR.replace("2 r", "1 r"))
        r, s, t = [room(place) for place in range(3)]
        # Nothing leads to an awaited one behind t, but t is dry.
        for fact in [some("f", "u"), some("f", "s")]:
            self.wrong(plan, ("whenever", some("f", "t"), fact), "yes", ("lots", [r, s, t], [t], [([0], None, [])]))
        self.wrong(plan, ("at last", NOT_TRUE), "yes", ("lots", [r, s, t], [r, s, t],
                   [([place], None, []) for place in range(3)]))

    def test_weak(self):
        saying = ("at last", some("f", "out"))
        p, q, out = [room(place) for place in range(3)]
        spin = "family f 1 p q out\nstep spin: at p; go p\nstep leave: at p; go out"
        for kind in ("weak", "strong"):
            plan = read_plan(spin + f"\nwish {kind} f leave")
            self.right(plan, saying, "yes", ("lots", [p, out], [p], [([0], (kind, 0, "leave"), [])]))
            other = "strong" if kind == "weak" else "weak"
            for wish in [None, (other, 0, "leave"), (kind, 1, "leave"), (kind, 0, "spin"), (kind, 0),
                         (kind, 0, "leave", 0), [kind, 0, "leave"],
                         (kind, "f", "leave"), (kind, 0, "gone"), (0, 0), (kind, None, "leave"), "leave", 0,
                         (0, kind, "leave")]:
                self.wrong(plan, saying, "yes", ("lots", [p, out], [p], [([0], wish, [])]))
            for rest in [[([0], None, [])], None, (), [[]], [None], 0, "", [([], None, [])]]:
                self.wrong(plan, saying, "yes", ("lots", [p, out], [p], [([0], (kind, 0, "leave"), rest)]))
        self.wrong(read_plan(spin), saying, "yes", ("lots", [p, out], [p], [([0], ("weak", 0, "leave"), [])]),
                   ("lots", [p, out], [p], [([0], None, [])]))
        # Done within the lot, it helps nothing.
        self.wrong(read_plan(spin + "\nwish weak f spin"), saying, "yes",
                   ("lots", [p, out], [p], [([0], ("weak", 0, "spin"), [])]))

    def test_strong(self):
        saying = ("at last", some("f", "out"))
        p, q, out = [room(place) for place in range(3)]
        lots = [([0, 1], ("strong", 0, "leave"), [([1], None, [])])]
        plan = read_plan(OUT + "\nwish strong f leave")
        self.right(plan, saying, "yes", ("lots", [p, q, out], [p, q], lots),
                   ("lots", [out, q, p], [p, q], [([1, 0],) + lots[0][1:]]),
                   ("lots", [p, q, out], [q, p], [([0, 1], ("strong", 0, "leave"), [([0], None, [])])]))
        for rest in [[], [([0], None, [])], [([0, 1], None, [])], [([1], None, []), ([0], None, [])],
                     [([1], None, []), ([1], None, [])], [([], None, [])],
                     [([1], ("strong", 0, "leave"), [])], None, ([1], None, []), (([1], None, []),), [([2], None, [])],
                     [([1], None, [[]])],
                     [([1, 1], None, [])], [([1], None, []), ([], None, [])], [[[1], None, []]], [1], ["x"]]:
            self.wrong(plan, saying, "yes", ("lots", [p, q, out], [p, q], [([0, 1], ("strong", 0, "leave"), rest)]))
        # The two lead to one another, so they aren't two lots.
        self.wrong(plan, saying, "yes", ("lots", [p, q, out], [p, q], [([0], None, []), ([1], None, [])]),
                   ("lots", [p, q, out], [p, q], [([1], None, []), ([0], None, [])]))
        # A weak wish isn't able in each of them.
        weak = read_plan(OUT + "\nwish weak f leave")
        self.wrong(weak, saying, "yes", ("lots", [p, q, out], [p, q], [([0, 1], ("weak", 0, "leave"), [])]),
                   ("lots", [p, q, out], [p, q], [([0, 1], ("weak", 0, "leave"), [([1], None, [])])]),
                   ("lots", [p, q, out], [p, q], lots))

    def test_a_strong_wish_that_is_able_nowhere(self):
        plan = read_plan("family f 1 p q out\nstep spin: at p; go p\nstep leave: at q; go out\nwish strong f leave")
        lot = ([0], ("strong", 0, "leave"), [([0], ("strong", 0, "leave"), [])])
        self.wrong(plan, ("at last", some("f", "out")), "yes", ("lots", [room(0)], [room(0)], [lot]),
                   ("lots", [room(0)], [room(0)], [([0], ("strong", 0, "leave"), [])]),
                   ("lots", [room(0)], [room(0)], lot[2]),
                   ("lots", [room(0)], [room(0)], [([0], ("strong", 0, "leave"), [([0], None, [])])]))

        # Nor where another wish would be enough within.
        plan = read_plan("family f 1 p q out\nstep spin: at p; go p\nstep leave: at q; go out\nstep go: at p; go out\n"
                         "wish strong f leave\nwish weak f go")
        p, out = room(0), room(2)
        inner = [([0], ("weak", 0, "go"), [])]
        self.right(plan, ("at last", some("f", "out")), "yes", ("lots", [p, out], [p], inner))
        self.wrong(plan, ("at last", some("f", "out")), "yes",
                   ("lots", [p, out], [p], [([0], ("strong", 0, "leave"), inner)]))

    def test_within_one_another(self):
        # From p and from r a way out, from the middle none.
        plan = read_plan("""family f 1 p q r out
step pq: at p; go q
step qp: at q; go p
step qr: at q; go r
step rq: at r; go q
step pout: at p; go out
step rout: at r; go out
step stay: at out; go out
wish strong f pout
wish strong f rout""")
        saying = ("at last", some("f", "out"))
        p, q, r, out = [room(place) for place in range(4)]
        first, second = ("strong", 0, "pout"), ("strong", 0, "rout")
        inner = [([1, 2], second, [([1], None, [])])]
        self.right(plan, saying, "yes", ("lots", [p, q, r, out], [p, q, r], [([0, 1, 2], first, inner)]),
                   ("lots", [p, q, r, out], [p, q, r], [([2, 1, 0], second, [([1, 0], first, [([1], None, [])])])]))
        for rest in [[([1], None, []), ([2], None, [])], [([1, 2], first, [([1], None, [])])], [([1, 2], second, [])],
                     [([1, 2], second, [([2], None, [])])],
                     [([1, 2], None, [])], [([0, 1, 2], second, [([1], None, [])])],
                     [([0, 1], second, [([1], None, [])])]]:
            self.wrong(plan, saying, "yes", ("lots", [p, q, r, out], [p, q, r], [([0, 1, 2], first, rest)]))
        # Within a rest, deeds that lead out of it through the others don't count, but the order among its own does.
        plan = read_plan("""family f 1 p q r out
step pq: at p; go q
step qr: at q; go r
step rp: at r; go p
step pout: at p; go out
step stay: at out; go out
wish strong f pout""")
        self.right(plan, saying, "yes", ("lots", [p, q, r, out], [p, q, r],
                   [([0, 1, 2], first, [([1], None, []), ([2], None, [])])]),
                   ("lots", [p, q, r, out], [p, q, r], [([2, 1, 0], first, [([1], None, []), ([2], None, [])])]))
        self.wrong(plan, saying, "yes", ("lots", [p, q, r, out], [p, q, r],
                   [([0, 1, 2], first, [([2], None, []), ([1], None, [])])]),
                   ("lots", [p, q, r, out], [p, q, r], [([0, 1, 2], first, [([1, 2], None, [])])]))

    def test_a_wish_of_each_hand(self):
        plan = read_plan("family f 2 r s\nstep spin: at r; go r\nstep a: at r; go s\nstep stay: at s; go s\nwish weak f a")
        saying = ("at last", every("f", "s"))
        standings = [room(0, 0), room(0, 1), room(1, 0), room(1, 1)]
        def paper(one, other, third):
            return ("lots", standings, standings[:3], [([0], ("weak", one, "a"), []), ([1], ("weak", other, "a"), []),
                    ([2], ("weak", third, "a"), [])])
        for one in range(3):
            for other in range(2):
                for third in range(2):
                    self.assertIs(judge(plan, saying, "yes", paper(one, other, third)),
                                  one < 2 and other == 0 and third == 1)

    def test_another_cut(self):
        # Lots may be finer or wider than need be, as long as each keeps the words.
        plan = read_plan("family f 1 p q r out\nstep spin: at p; go p\nstep pq: at p; go q\nstep qout: at q; go out\nstep pout: at p; go out\n"
                         "step stay: at out; go out\nstep qspin: at q; go q\nwish weak f pout\nwish weak f qout\nwish strong f qout")
        p, q, r, out = [room(place) for place in range(4)]
        saying = ("at last", some("f", "out"))
        self.right(plan, saying, "yes", ("lots", [p, q, out], [p, q],
                   [([0], ("weak", 0, "pout"), []), ([1], ("weak", 0, "qout"), [])]),
                   ("lots", [p, q, out], [p, q], [([0], ("weak", 0, "pout"), []), ([1], ("strong", 0, "qout"), [])]),
                   ("lots", [p, q, out], [p, q], [([0, 1], ("strong", 0, "qout"), [([0], ("weak", 0, "pout"), [])])]))
        self.wrong(plan, saying, "yes", ("lots", [p, q, out], [p, q],
                   [([0, 1], ("strong", 0, "qout"), [([0], None, [])])]),
                   ("lots", [p, q, out], [p, q], [([0, 1], ("weak", 0, "qout"), [])]),
                   ("lots", [p, q, out], [p, q], [([0, 1], ("weak", 0, "pout"), [])]),
                   ("lots", [p, q, out], [p, q], [([1], ("weak", 0, "qout"), []), ([0], ("weak", 0, "pout"), [])]))


class RoundAndEndTest(JudgeCase):
    def test_rounds(self):
        plan = read_plan(OUT)
        saying = ("at last", some("f", "out"))
        self.right(plan, saying, "no", ("round", [], deeds_of("there", "back")),
                   ("round", deeds_of("there"), deeds_of("back", "there")),
                   ("round", deeds_of("there", "back"), deeds_of("there", "back", "there", "back")))
        self.wrong(plan, saying, "no", ("round", [], []), ("round", [], deeds_of("there")),
                   ("round", deeds_of("there"), deeds_of("back")),
                   ("round", deeds_of("there"), []), ("round", deeds_of("leave"), deeds_of("stay")),
                   ("round", [], deeds_of("back", "there")),
                   ("round", (), deeds_of("there", "back")), ("round", [], tuple(deeds_of("there", "back"))),
                   ("round", deeds_of("there", "back")),
                   ("round", [], deeds_of("there", "back"), []), ["round", [], deeds_of("there", "back")],
                   ("round", None, deeds_of("there", "back")),
                   ("round", [], None), ("round", [], deeds_of("there", "there")),
                   ("round", deeds_of("back"), deeds_of("there", "back")),
                   ("round", [None], deeds_of("there", "back")),
                   ("round", [], [["step", 0, "there", None, ()]] + deeds_of("back")), ("end", []))
        self.right(plan, ("at last", NOT_TRUE), "no", ("round", deeds_of("leave"), deeds_of("stay")))
        self.wrong(plan, ("at last", some("f", "q")), "no", ("round", [], deeds_of("there", "back")),
                   ("round", deeds_of("there", "back", "leave"), deeds_of("stay")))
        self.right(plan, ("at last", some("f", "q")), "no", ("round", deeds_of("leave"), deeds_of("stay")))
        self.wrong(plan, ("at last", some("f", "p")), "no", ("round", deeds_of("leave"), deeds_of("stay")))

    def test_whenever(self):
        plan = read_plan(OUT)
        stay = deeds_of("stay")
        self.right(plan, ("whenever", some("f", "q"), some("f", "out")), "no",
                   ("round", deeds_of("there"), deeds_of("back", "there")),
                   ("round", deeds_of("there", "back"), deeds_of("there", "back")))
        # The first fact must stand on the run already.
        self.wrong(plan, ("whenever", some("f", "q"), some("f", "out")), "no", ("round", [], deeds_of("there", "back")))
        self.right(plan, ("whenever", some("f", "p"), some("f", "q")), "no", ("round", deeds_of("leave"), stay),
                   ("round", deeds_of("there", "back", "leave"), stay))
        self.wrong(plan, ("whenever", some("f", "q"), some("f", "p")), "no",
                   ("round", deeds_of("there", "back", "leave"), stay), ("round", deeds_of("leave"), stay))
        self.wrong(plan, ("whenever", some("f", "p"), some("f", "q")), "no", ("round", [], deeds_of("there", "back")),
                   ("round", deeds_of("there"), deeds_of("back", "there")))
        self.wrong(plan, ("whenever", some("f", "p"), some("f", "out")), "no", ("round", deeds_of("leave"), stay))
        self.wrong(plan, ("whenever", some("f", "p"), some("f", "p")), "no", ("round", [], deeds_of("there", "back")))

    def test_wishes(self):
        saying = ("at last", some("f", "out"))
        papers = [("round", [], deeds_of("there", "back")), ("round", deeds_of("there"), deeds_of("back", "there"))]
        for wishes, good in [("\nwish weak f leave", True), ("\nwish strong f leave", False),
                             ("\nwish strong f there\nwish weak f back", True),
                             ("\nwish strong f stay", True), ("\nwish weak f stay\nwish strong f leave", False)]:
            for paper in papers:
                self.assertIs(judge(read_plan(OUT + wishes), saying, "no", paper), good, wishes)
        spin = "family f 2 p out\nstep spin: at p; go p\nstep leave: at p; go out"
        for wish, one, two, both in [("", True, True, True), ("\nwish weak f leave", False, False, False),
                                     ("\nwish weak f spin", False, False, True),
                                     ("\nwish strong f spin", False, False, True)]:
            for more, good in [([told(0, "spin")], one), ([told(1, "spin")] * 2, two),
                               ([told(0, "spin"), told(1, "spin")], both)]:
                self.assertIs(judge(read_plan(spin + wish), ("at last", some("f", "out")), "no", ("round", [], more)),
                              good, wish)

    def test_ends(self):
        plan = read_plan("family f 1 r s t u\nstep a: at r; go s\nstep b: at r; go t\nstep c: at s; go r\nstep d: at s; go u")
        saying = ("at last", some("f", "u"))
        self.right(plan, saying, "no", ("end", deeds_of("b")), ("end", deeds_of("a", "c", "b")))
        self.wrong(plan, saying, "no", ("end", []), ("end", deeds_of("a")), ("end", deeds_of("a", "d")),
                   ("end", deeds_of("b", "b")), ("end", tuple(deeds_of("b"))),
                   ("end",), ("end", deeds_of("b"), []), ["end", deeds_of("b")], ("end", None), ("run", deeds_of("b")),
                   ("end", ["b"]), ("round", deeds_of("b"), []))
        self.wrong(plan, ("at last", some("f", "s")), "no", ("end", deeds_of("a", "c", "b")),
                   ("end", deeds_of("a", "d")))
        self.right(plan, ("at last", some("f", "s")), "no", ("end", deeds_of("b")))
        self.right(plan, ("whenever", some("f", "s"), some("f", "t")), "no", ("end", deeds_of("a", "d")),
                   ("end", deeds_of("a", "c", "a", "d")))
        self.wrong(plan, ("whenever", some("f", "s"), some("f", "t")), "no", ("end", deeds_of("a", "c", "b")),
                   ("end", deeds_of("b")), ("end", deeds_of("a")))
        self.right(plan, ("whenever", some("f", "s"), some("f", "r")), "no", ("end", deeds_of("a", "d")),
                   ("end", deeds_of("a", "c", "a", "d")))
        self.wrong(plan, ("whenever", some("f", "s"), some("f", "r")), "no", ("end", deeds_of("a", "c", "b")))
        self.wrong(plan, ("whenever", some("f", "u"), some("f", "u")), "no", ("end", deeds_of("a", "d")))
        self.right(read_plan("family f 1 r"), ("at last", NOT_TRUE), "no", ("end", []))
        plan = read_plan("family f 1 r s\nstep a: at r; go s")
        self.right(plan, ("at last", NOT_TRUE), "no", ("end", deeds_of("a")))
        self.wrong(plan, ("at last", NOT_TRUE), "no", ("end", []))


class CanTest(JudgeCase):
    def test_ways(self):
        plan = read_plan(OUT)
        p, q, out = [room(place) for place in range(3)]
        saying = ("always can", some("f", "out"))
        self.right(plan, saying, "yes", ("ways", [(p, 1), (q, 2), (out, 0)]), ("ways", [(out, 5), (q, 90), (p, 6)]),
                   ("ways", [(out, 0), (p, 1), (q, 2)]))
        self.wrong(plan, saying, "yes", ("ways", [(p, 0), (q, 2), (out, 0)]), ("ways", [(p, 1), (q, 1), (out, 0)]),
                   ("ways", [(p, 2), (q, 1), (out, 0)]),
                   ("ways", [(p, 1), (q, 2)]), ("ways", [(p, 1), (out, 0)]), ("ways", [(q, 2), (out, 0)]),
                   ("ways", []), ("ways", [(out, 0)]),
                   ("ways", [(p, 1), (q, 2), (out, 0), (out, 0)]), ("ways", [(p, 1), (q, 2), (out, 0), (out, 1)]),
                   ("ways", [(p, 1), (q, 2), (out, -1)]),
                   ("ways", [(p, 1), (q, None), (out, 0)]), ("ways", [(p, 1), (q, "2"), (out, 0)]),
                   ("ways", [(p, 1), (q, 2, 0), (out, 0)]),
                   ("ways", [(p, 1), [q, 2], (out, 0)]), ("ways", [(p, 1), (2, q), (out, 0)]),
                   ("ways", ((p, 1), (q, 2), (out, 0))),
                   ("ways", [p, q, out]), ("ways",), ("ways", [(p, 1), (q, 2), (out, 0)], []),
                   ["ways", [(p, 1), (q, 2), (out, 0)]],
                   ("ways", [(p, 1), (q, (2,)), (out, 0)]), ("ways", [(p, 1), (q,), (out, 0)]), ("all", [p, q, out]))
        self.right(plan, ("always can", TRUE), "yes", ("ways", [(p, 0), (q, 0), (out, 0)]),
                   ("ways", [(p, 0), (q, 3), (out, 1)]))
        self.wrong(plan, ("always can", some("f", "q")), "yes", ("ways", [(p, 1), (q, 0), (out, 2)]),
                   ("ways", [(p, 1), (q, 0), (out, 0)]))

    def test_besides(self):
        plan = read_plan("family f 1 r s t\nstep a: at r; go s\nstep b: at t; go s\nstep c: at t; go t\nstep d: at s; go s")
        r, s, t = [room(place) for place in range(3)]
        saying = ("always can", some("f", "s"))
        self.right(plan, saying, "yes", ("ways", [(r, 1), (s, 0)]), ("ways", [(r, 1), (s, 0), (t, 1)]))
        self.wrong(plan, saying, "yes", ("ways", [(r, 1), (s, 0), (t, 0)]), ("ways", [(r, 1), (t, 1)]))
        self.right(plan, ("always can", some("f", "t")), "no", ("shut", [], [r, s]), ("shut", deeds_of("a"), [s]),
                   ("shut", deeds_of("a"), [s, r]))
        self.right(plan, ("always can", some("f", "r")), "no", ("shut", deeds_of("a"), [s, t]),
                   ("shut", deeds_of("a", "d", "d"), [t, s]))
        self.wrong(plan, ("always can", some("f", "r")), "no", ("shut", deeds_of("a"), [t]), ("shut", [], [s]),
                   ("shut", [], [r, s]))

    def test_shut(self):
        plan = read_plan(LINE + "\nstep sr: at s; go r")
        p, q, r, s = [room(place) for place in range(4)]
        saying = ("always can", some("f", "q"))
        run = deeds_of("pq", "qr")
        self.right(plan, saying, "no", ("shut", run, [r, s]), ("shut", run + deeds_of("rs"), [s, r]),
                   ("shut", deeds_of("pq", "qp") + run, [r, s]))
        self.wrong(plan, saying, "no", ("shut", run, [r]), ("shut", run, [s]), ("shut", run, []), ("shut", [], [r, s]),
                   ("shut", deeds_of("pq"), [r, s]),
                   ("shut", run, [q, r, s]), ("shut", run, [p, r, s]), ("shut", run, [r, s, s]), ("shut", run, (r, s)),
                   ("shut", tuple(run), [r, s]),
                   ("shut", run), ("shut", run, [r, s], []), ["shut", run, [r, s]], ("shut", [r, s], run),
                   ("shut", None, [r, s]), ("shut", run, None),
                   ("shut", run[1:], [r, s]), ("shut", run, [(r, 0), (s, 0)]), ("shut", run + deeds_of("qr"), [r, s]),
                   ("run", run), ("all", [r, s]))
        self.right(plan, ("always can", NOT_TRUE), "no", ("shut", [], [p, q, r, s]), ("shut", run, [r, s]),
                   ("shut", run, [p, q, r, s]))


if __name__ == "__main__":
    unittest.main()
