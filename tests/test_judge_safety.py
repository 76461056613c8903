"""Papers for never, always and ahead, made by hand: right ones, and ones that lack just one thing."""

import unittest

from roadsall.facts import comings
from roadsall.goers import folded, thinned
from roadsall.judge import judge
from roadsall.plans import read_plan
from roadsall.renamings import least
from roadsall.standings import begin
from judging import LINE, NOT_TRUE, PAIR, TRUE, JudgeCase, deeds_of, room
from samples import RESEND, every, many, some, told, with_hand, with_roads


class AllTest(JudgeCase):
    def test_never_and_always(self):
        plan = read_plan(LINE)
        p, q, r, s = [room(place) for place in range(4)]
        for saying in [("never", NOT_TRUE), ("always", TRUE), ("always", some("f")), ("never", many("f", "", "=", 2))]:
            self.right(plan, saying, "yes", ("all", [p, q, r, s]), ("all", [s, r, q, p]), ("all", [q, s, p, r]))
            self.wrong(plan, saying, "yes", ("all", [p, q, r]), ("all", [q, r, s]), ("all", [p, q, r, s, s]),
                       ("all", [p, p, q, r, s]), ("all", []), ("all", [s]), ("all", [p, r, s]), ("all", (p, q, r, s)),
                       ["all", [p, q, r, s]], ("all",), ("all", [p, q, r, s], []), ("all", [p, q, r, list(s)]),
                       ("all", [p, q, r, s, None]), ("All", [p, q, r, s]), ("ways", [p, q, r, s]))
        for saying in [("never", some("f", "s")), ("always", ("not", some("f", "s"))), ("never", TRUE)]:
            self.wrong(plan, saying, "yes", ("all", [p, q, r, s]), ("all", [p, q, r]), ("all", []))

    def test_final_ones(self):
        plan = read_plan(LINE)
        p, q, r, s = [room(place) for place in range(4)]
        saying = ("ahead", some("f", "q"), some("f", "s"))
        # What comes behind a final one may lack, or stand there as far as it is closed and none is bad.
        self.right(plan, saying, "yes", ("all", [p, q]), ("all", [q, p]))
        self.wrong(plan, saying, "yes", ("all", [p]), ("all", [q]), ("all", [p, q, r]), ("all", [p, q, r, s]),
                   ("all", [p, q, s]))
        self.right(plan, ("ahead", some("f", "q"), some("f", "t")), "yes", ("all", [p, q]), ("all", [p, q, s, r]),
                   ("all", [s, p, q]))
        self.right(plan, ("ahead", TRUE, TRUE), "yes", ("all", [p]), ("all", [p, r]), ("all", [p, q, r, s]))
        self.wrong(plan, ("ahead", some("f", "r"), some("f", "q")), "yes", ("all", [p, q, r]), ("all", [p, q, r, s]),
                   ("all", [p]))

    def test_besides(self):
        # No letter is ever sent, yet standings with letters have the form of a standing.
        plan = read_plan("family f 1 r s\ncell c 0 3 0\nstep a: at r; go s\nfamily g 1 t\nwho w\nroad f g heap 2\nroad g f row 2")
        first, second = comings(plan)
        besides = [with_roads(plan, second, {(0, 1): (("m", 1), ("n", -999))}), with_hand(second, 0, (1, (3,), ())),
                   with_roads(plan, second, {(1, 0): (("z", 9), ("a", 999))}), with_hand(second, 1, (0, (), (0,))),
                   with_hand(second, 1, (0, (), (1,))), with_roads(plan, second, {(0, 1): (("m", 1), ("m", 1))})]
        for saying in [("never", NOT_TRUE), ("always", TRUE)]:
            for more in besides:
                self.right(plan, saying, "yes", ("all", [first, second, more]), ("all", [more, second, first]))
            self.right(plan, saying, "yes", ("all", besides + [first, second]))
        # A besides one counts like the others: it may be bad, and its ends must be there.
        self.wrong(plan, ("never", ("letters", "f", "g", "", ">", 0)), "yes", ("all", [first, second, besides[0]]))
        self.right(plan, ("never", ("letters", "f", "g", "", ">", 0)), "yes", ("all", [first, second, besides[1]]))
        ahead = with_hand(first, 0, (0, (3,), ()))
        self.wrong(plan, ("never", NOT_TRUE), "yes", ("all", [first, second, ahead]))
        self.right(plan, ("never", NOT_TRUE), "yes", ("all", [first, second, ahead, besides[1]]))

    def test_what_is_no_standing(self):
        plan = read_plan("family f 1 r s\ncell c 0 3 0\nstep a: at r; go s\nfamily g 1 t\nwho w\nroad f g heap 2\nroad g f row 2")
        first, second = comings(plan)
        hands, roads = second
        m, n = ("m", 1), ("n", 1)
        for more in [
            with_hand(second, 0, (2, (3,), ())), with_hand(second, 0, (-1, (3,), ())),
            with_hand(second, 0, (1, (4,), ())),
            with_hand(second, 0, (1, (-1,), ())), with_hand(second, 0, (1, (), ())),
            with_hand(second, 0, (1, (1, 1), ())),
            with_hand(second, 0, (1, (1,), (0,))), with_hand(second, 0, (1, [1], ())), with_hand(second, 0, (1, (1,))),
            with_hand(second, 0, [1, (1,), ()]), with_hand(second, 0, (1, (1,), [])),
            with_hand(second, 0, ("s", (1,), ())),
            with_hand(second, 0, (1, ("1",), ())), with_hand(second, 0, (1, (None,), ())), with_hand(second, 0, None),
            with_hand(second, 0, (1, 1, ())), with_hand(second, 0, (1, (1,), (), ())),
            with_hand(second, 0, (None, (1,), ())),
            with_hand(second, 1, (0, (), (2,))), with_hand(second, 1, (0, (), (-2,))),
            with_hand(second, 1, (0, (), ())),
            with_hand(second, 1, (0, (), (None,))), with_hand(second, 1, (0, (), ("f",))),
            with_hand(second, 1, (0, (), (0, 0))),
            (hands[:1], roads), (hands + hands[:1], roads), (hands, roads[:1]), (hands, roads + ((),)), (hands,),
            hands, (),
            (hands, roads, ()), (list(hands), roads), (hands, list(roads)), [hands, roads], (roads, hands), None, 7,
            "f",
            (hands, ((n, m), ())), (hands, ((m, m, m), ())), (hands, ((), (m, n, m))), (hands, ([m], ())),
            (hands, (m, ())),
            (hands, ((["m", 1],), ())), (hands, (("m",), ())), (hands, ((("m",),), ())), (hands, ((("m", 1, 1),), ())),
            (hands, (((1, "m"),), ())), (hands, ((("m", "1"),), ())), (hands, ((("m", None),), ())),
            (hands, (((None, 1),), ())),
            (hands, ((("", 1),), ())), (hands, ((("M", 1),), ())), (hands, ((("or", 1),), ())),
            (hands, ((("m", 1000),), ())),
            (hands, ((("m", -1000),), ())), (hands, (None, ())), (hands, ("", ())), (hands, (((("m",), 1),), ())),
        ]:
            self.wrong(plan, ("never", NOT_TRUE), "yes", ("all", [first, second, more]), ("all", [more, first, second]))
            self.wrong(plan, ("never", NOT_TRUE), "yes", ("folded", [first, second, more]))
            self.wrong(plan, ("never", NOT_TRUE), "yes",
                       ("thinned", [(first, None, 0), (second, None, 0), (more, None, 0)]))
            self.wrong(plan, ("always can", TRUE), "yes", ("ways", [(first, 0), (second, 0), (more, 0)]))
            self.wrong(plan, ("always can", NOT_TRUE), "no", ("shut", [], [first, second, more]))
            self.wrong(plan, ("whenever", NOT_TRUE, TRUE), "yes", ("lots", [first, second, more], [], []))
        self.right(plan, ("never", NOT_TRUE), "yes", ("all", [first, second]), ("folded", [second, first]))
        self.right(plan, ("whenever", NOT_TRUE, TRUE), "yes", ("lots", [first, second], [], []))


class FoldedTest(JudgeCase):
    def test_folded(self):
        plan = read_plan(PAIR)
        leasts = [room(0, 0), room(0, 1), room(0, 2), room(1, 1), room(1, 2), room(2, 2)]
        self.assertEqual(sorted(folded(plan)), leasts)
        for saying in [("never", NOT_TRUE), ("always", TRUE), ("never", many("f", "", "<", 2)),
                       ("never", ("and", ("dry",), some("f", "r")))]:
            self.right(plan, saying, "yes", ("folded", leasts), ("folded", leasts[::-1]))
            self.wrong(plan, saying, "yes", ("folded", leasts + [room(1, 0)]), ("folded", leasts[1:]), ("folded", []),
                       ("folded", leasts + leasts[:1]), ("folded", tuple(leasts)), ("folded", leasts, []), ("folded",),
                       ("folded", [room(1, 0) if one == room(0, 1) else one for one in leasts]), ["folded", leasts])
            for place in range(6):
                self.wrong(plan, saying, "yes", ("folded", leasts[:place] + leasts[place + 1:]))
            self.wrong(plan, saying, "yes", ("all", leasts), ("folded", comings(plan)),
                       ("folded", [(one, None, 0) for one in leasts]))
        self.wrong(plan, ("never", every("f", "t")), "yes", ("folded", leasts), ("folded", leasts[:-1]))
        self.right(plan, ("ahead", some("f", "s"), some("f", "t")), "yes", ("folded", leasts[:2]))
        self.wrong(plan, ("ahead", every("f", "s"), some("f", "t")), "yes", ("folded", leasts[:2]), ("folded", leasts))

    def test_besides(self):
        plan = read_plan("family f 2 r s\ncell c 0 1 0\nwho w\nroad f f row 1")
        first = begin(plan)
        besides = [least(plan, one)[0] for one in [with_hand(first, 0, (1, (0,), (0,))),
        with_hand(first, 1, (0, (1,), (-1,))),
                                                    with_roads(plan, first, {(0, 1): (("m", 3),)})]]
        self.assertEqual(len(set(besides)), 3)
        self.right(plan, ("never", NOT_TRUE), "yes", ("folded", besides + [first]))
        for one in [with_hand(first, 0, (1, (0,), (0,))), with_roads(plan, first, {(0, 1): (("m", 3),)}),
                    with_hand(first, 0, (0, (1,), (-1,)))]:
            good = least(plan, one)[0] == one
            self.assertIs(judge(plan, ("never", NOT_TRUE), "yes", ("folded", [first, one])), good)
        self.assertEqual(least(plan, besides[2])[0], besides[2])

    def test_dry_is_folded_too(self):
        plan = read_plan(PAIR)
        self.right(plan, ("never", ("and", ("dry",), some("f", "s"))), "yes", ("folded", folded(plan)))


class ThinnedTest(JudgeCase):
    SAYING = ("never", NOT_TRUE)

    def test_right(self):
        plan = read_plan(PAIR)
        every_row = [(standing, None, 0) for standing in comings(plan)]
        self.right(plan, self.SAYING, "yes", ("thinned", every_row), ("thinned", every_row[:1] + every_row[:0:-1]),
                   ("thinned", [(standing, None, 7 * place) for place,
                   (standing, hand, number) in enumerate(every_row)]),
                   ("thinned", thinned(plan, [NOT_TRUE])),
                   ("thinned", [(room(0, 0), 1, 9), (room(0, 1), 1, 8), (room(0, 2), 0, 6), (room(1, 2), 0, 1),
                   (room(2, 2), None, 0)]),
                   ("thinned", [(room(0, 0), 0, 4), (room(1, 0), 1, 3), (room(1, 1), 0, 2), (room(2, 1), 1, 1),
                   (room(2, 2), None, 0)]),
                   ("thinned", [(room(0, 0), 0, 4), (room(1, 0), 1, 3), (room(1, 1), None, 2), (room(2, 1), 1, 1),
                   (room(1, 2), 0, 70),
                                (room(2, 2), None, 0)]))

    def test_wrong(self):
        plan = read_plan(PAIR)
        rows = [(room(0, 0), 1, 9), (room(0, 1), 1, 8), (room(0, 2), 0, 6), (room(1, 2), 0, 1), (room(2, 2), None, 0)]
        self.right(plan, self.SAYING, "yes", ("thinned", rows))
        for place in range(5):
            standing, hand, number = rows[place]
            for bent in [[], [rows[place]] * 2, [(standing, hand)], [(standing, hand, number, 0)],
                         [[standing, hand, number]],
                         [(standing, 2, number)], [(standing, -1, number)], [(standing, "f", number)],
                         [(standing, hand, -1)],
                         [(standing, hand, None)], [(standing, hand, "9")], [(standing, hand, 10 if place else 8)],
                         [standing],
                         [(hand, standing, number)], [(standing, None if place < 2 else 1, number)],
                         [(standing, (), number)]]:
                self.wrong(plan, self.SAYING, "yes", ("thinned", rows[:place] + bent + rows[place + 1:]))
        self.wrong(plan, self.SAYING, "yes", ("thinned", rows[1:] + rows[:1]), ("thinned", rows[::-1]),
                   ("thinned", tuple(rows)),
                   ("thinned", rows, 0), ("thinned",), ["thinned", rows], ("thinned", []), ("all", rows),
                   ("ways", rows))
        # With equal numbers none is lesser.
        self.wrong(plan, self.SAYING, "yes", ("thinned", [row[:2] + (4,) for row in rows]))

    def test_besides(self):
        plan = read_plan("family f 1 r s t\nstep a: at r; go s\nroad f f row 1")
        rows = [(room(0), 0, 1), (room(1), None, 0)]
        self.right(plan, self.SAYING, "yes", ("thinned", rows), ("thinned", rows + [(room(2), None, 3)]))
        self.wrong(plan, self.SAYING, "yes", ("thinned", rows + [(room(2), 0, 3)]),
                   ("thinned", [(room(2), None, 3)] + rows))
        self.wrong(plan, ("never", some("f", "t")), "yes", ("thinned", rows + [(room(2), None, 3)]))

    def test_a_hand_that_does_not_rest(self):
        # From its room one step sends, though it can't be done.
        for more, good in [("", True), ("\nstep b: at r; when 1 = 2; send m 0 to any f; go s", False),
                           ("\nstep b: at r; take m from f; go s", False),
                           ("\nstep b: at s; send m 0 to any f; go s", True)]:
            plan = read_plan("family f 2 r s\nstep a: at r; go s" + more + "\nroad f f row 1")
            rows = [(room(0, 0)[0], ((), ()))]
            ends = {hand: (room(*[int(hand == one) for one in range(2)])[0], ((), ())) for hand in range(2)}
            last = (room(1, 1)[0], ((), ()))
            paper = ("thinned", [(rows[0], 0, 2), (ends[0], 1, 1), (last, None, 0)])
            if more.endswith("send m 0 to any f; go s") and good:
                closed = [one for one in comings(plan) if one not in (rows[0], ends[0], last)]
                paper = ("thinned", paper[1][:1] + [(one, None, 1) for one in [ends[0], last] + closed])
            self.assertIs(judge(plan, self.SAYING, "yes", paper), good, more)
            self.right(plan, self.SAYING, "yes", ("thinned", [(one, None, 0) for one in comings(plan)]))

    def test_what_a_fact_sees(self):
        plan = read_plan("family f 2 r s\ncell c 0 2 0\nstep up: at r; when c < 2; set c c + 1; go r\nstep end: at r; when c = 2; go s")
        def own(one, other):
            return (((one[0], (one[1],), ()), (other[0], (other[1],), ())), ())
        way = [(0, 0), (0, 1), (0, 2), (1, 2)]
        rows = [(own(one, (0, 0)), 0, 9 - place) for place, one in enumerate(way)][:3]
        rows += [(own(way[3], one), 1, 6 - place) for place, one in enumerate(way)]
        rows[-1] = (own(way[3], way[3]), None, 0)
        for fact, good in [(NOT_TRUE, True), (many("f", "", ">", 2), True), (many("f", "s", ">", 2), False),
                           (some("f", "r", "c > 2"), True),
                           (many("f", "", ">", 2, "c = 1"), False), (many("f", "s", ">", 2, "c < 2"), True),
                           (("and", NOT_TRUE, some("f", "s")), False), (many("f", "r", ">", 2, "c < 3"), False),
                           (("letters", "f", "f", "", ">", 0), True), (many("f", "r", ">", 2, "c < 2"), False),
                           (many("f", "", ">", 2, "c < 3"), True), (("not", ("or", TRUE, every("f", "r"))), False)]:
            self.assertIs(judge(plan, ("never", fact), "yes", ("thinned", rows)), good, fact)
            self.assertIs(judge(plan, ("always", ("not", fact)), "yes", ("thinned", rows)), good, fact)
            self.assertIs(judge(plan, ("ahead", NOT_TRUE, fact), "yes", ("thinned", rows)), good, fact)
            self.assertIs(judge(plan, ("ahead", fact, NOT_TRUE), "yes", ("thinned", rows)), good, fact)
            self.right(plan, ("never", fact), "yes", ("thinned", [(one, None, 0) for one in comings(plan)]))
        # Another family's facts see nothing of it.
        plan[0].append(("g", 1, ["r", "s"], [("c", 0, 2, 0)], [], []))
        rows = [((one[0] + ((0, (0,), ()),), one[1]), hand, number) for one, hand, number in rows]
        self.right(plan, ("never", many("g", "s", ">", 0)), "yes", ("thinned", rows))
        self.right(plan, ("never", many("g", "", ">", 0, "c = 1")), "yes", ("thinned", rows))

    def test_only_plain_facts(self):
        plan = read_plan("family f 1 r s\nstep a: at r; go s")
        for fact in [("and", ("dry",), NOT_TRUE), ("some knows", "f", NOT_TRUE), ("not", ("each knows", "f", TRUE))]:
            self.wrong(plan, ("never", fact), "yes", ("thinned", [(room(0), None, 0), (room(1), None, 0)]))
        self.right(plan, ("never", NOT_TRUE), "yes", ("thinned", [(room(0), None, 0), (room(1), None, 0)]))

    def test_final_ones(self):
        plan = read_plan(LINE)
        p, q, r, s = [room(place) for place in range(4)]
        saying = ("ahead", some("f", "q"), some("f", "s"))
        self.right(plan, saying, "yes", ("thinned", [(p, None, 0), (q, None, 0)]),
                   ("thinned", [(p, None, 3), (q, None, 8)]))
        # A final one has no hand; and the step to it is seen.
        self.wrong(plan, saying, "yes", ("thinned", [(p, None, 0), (q, 0, 9)]), ("thinned", [(p, 0, 9), (q, None, 0)]),
                   ("thinned", [(p, None, 0)]), ("thinned", [(q, None, 0), (p, None, 0)]),
                   ("thinned", [(p, None, 0), (q, None, -1)]),
                   ("thinned", [(p, None, 0), (q, None, 0), (s, None, 0)]))


class RunTest(JudgeCase):
    def test_runs(self):
        plan = read_plan(LINE)
        for saying in [("never", some("f", "s")), ("always", ("not", some("f", "s"))),
                       ("ahead", some("f", "t"), some("f", "s")),
                       ("never", ("dry",))]:
            self.right(plan, saying, "no", ("run", deeds_of("pq", "qr", "rs")),
                       ("run", deeds_of("pq", "qp", "pq", "qr", "rs")))
            self.wrong(plan, saying, "no", ("run", deeds_of("pq", "qr")), ("run", deeds_of("pq", "rs")), ("run", []),
                       ("run", deeds_of("qr", "rs")), ("run", deeds_of("pq", "qr", "rs", "rs")), ("run", [None]),
                       ("run", tuple(deeds_of("pq", "qr", "rs"))), ["run", deeds_of("pq", "qr", "rs")], ("run",),
                       ("run", deeds_of("pq", "qr", "rs"), []), ("run", ["pq", "qr", "rs"]),
                       ("end", deeds_of("pq", "qr", "rs")),
                       ("run", deeds_of("pq", "qr", "rs", hand=1)), ("run", None), ("run", "pq"), ("run", 3),
                       ("run", [list(deed) for deed in deeds_of("pq", "qr", "rs")]),
                       ("run", [deed[:4] for deed in deeds_of("pq", "qr", "rs")]),
                       ("run", deeds_of("pq", "qr")[:1] + [("step", 0, "qr", None, [])] + deeds_of("rs")))

    def test_just_the_last_one_is_bad(self):
        plan = read_plan(LINE)
        saying = ("never", some("f", "q"))
        self.right(plan, saying, "no", ("run", deeds_of("pq")))
        self.wrong(plan, saying, "no", ("run", deeds_of("pq", "qr")), ("run", deeds_of("pq", "qp", "pq")),
                   ("run", deeds_of("pq", "qp")))
        self.right(plan, ("never", TRUE), "no", ("run", []))
        self.wrong(plan, ("never", TRUE), "no", ("run", deeds_of("pq")))
        self.right(plan, ("never", some("f", "p")), "no", ("run", []))
        self.wrong(plan, ("never", some("f", "p")), "no", ("run", deeds_of("pq", "qp")))

    def test_none_is_final(self):
        plan = read_plan(LINE)
        self.right(plan, ("ahead", some("f", "s"), some("f", "q")), "no", ("run", deeds_of("pq")))
        self.wrong(plan, ("ahead", some("f", "q"), some("f", "r")), "no", ("run", deeds_of("pq", "qr")))
        self.wrong(plan, ("ahead", some("f", "q"), some("f", "q")), "no", ("run", deeds_of("pq")))
        self.wrong(plan, ("ahead", some("f", "p"), some("f", "q")), "no", ("run", deeds_of("pq")))

    def test_letters_and_flaws(self):
        plan = read_plan(RESEND)
        send, hear, lose = told(0, "send"), told(1, "hear", (0, 0)), ("lose", 0, 1, 0)
        saying = ("never", some("g", "sure"))
        self.right(plan, saying, "no", ("run", [send, hear]), ("run", [send, lose, send, lose, send, hear]))
        self.wrong(plan, saying, "no", ("run", [hear]), ("run", [send, lose, hear]), ("run", [send, send, hear]),
                   ("run", [send, told(1, "hear")]),
                   ("run", [send, told(1, "hear", (0, 1))]), ("run", [send, told(1, "hear", (1, 0))]),
                   ("run", [send, ("lose", 0, 1, 1), send, hear]),
                   ("run", [send, ("double", 0, 1, 0), hear]), ("run", [send, told(1, "hear", [0, 0])]),
                   ("run", [send, ("lose", 0, 1), hear]))


if __name__ == "__main__":
    unittest.main()
