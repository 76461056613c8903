import copy
import unittest

from roadsall.errors import NoDeed
from roadsall.plans import check_plan, read_plan
from roadsall.standings import begin, deeds, do, ends_from, families_of, pairs_of
from samples import on_road, small_plan, told, with_hand, with_roads


class StandingCase(unittest.TestCase):
    def end_of(self, plan, standing, deed):
        self.assertIn(deed, deeds(plan, standing))
        return do(plan, standing, deed)

    def not_possible(self, plan, standing, deed):
        self.assertNotIn(deed, deeds(plan, standing))
        self.assertRaises(NoDeed, do, plan, standing, deed)


class BeginTest(unittest.TestCase):
    PLAN = """family a 2 r s
cell c -3 2 -1
cell d 0 9 5
who w
family b 1 q
family c 2 p
who u
who v
road a a row 1
road a b heap 2 loses
road c a row 3
road b b row 1"""

    def test_families(self):
        self.assertEqual(families_of(read_plan(self.PLAN)), [0, 0, 1, 2, 2])
        self.assertEqual(families_of(read_plan("family f 1 r")), [0])

    def test_pairs(self):
        plan = read_plan(self.PLAN)
        inner, there, back, lone = plan[1]
        self.assertEqual(pairs_of(plan), [
            (inner, 0, 1), (inner, 1, 0), (there, 0, 2), (there, 1, 2), (back, 3, 0), (back, 3, 1), (back, 4, 0),
            (back, 4, 1),
        ])
        self.assertEqual(lone, ("b", "b", "row", 1, False, False))

    def test_pairs_of_three_likes(self):
        plan = read_plan("family f 3 r\nroad f f heap 1")
        self.assertEqual([pair[1:] for pair in pairs_of(plan)], [(0, 1), (0, 2), (1, 0), (1, 2), (2, 0), (2, 1)])

    def test_pairs_without_roads(self):
        self.assertEqual(pairs_of(read_plan("family f 3 r")), [])

    def test_begin(self):
        a, b, c = (0, (-1, 5), (-1,)), (0, (), ()), (0, (), (-1, -1))
        self.assertEqual(begin(read_plan(self.PLAN)), ((a, a, b, c, c), ((),) * 8))
        self.assertEqual(begin(read_plan("family f 1 r")), (((0, (), ()),), ()))


class RoomTest(StandingCase):
    PLAN = """family f 2 r s t
cell c 0 3 0
step on: at r; go s
step off: at s; when c < 2; set c c + 1; go r
step stay: at s; when c = 2; go s"""

    def test_room_and_condition(self):
        plan = read_plan(self.PLAN)
        start = begin(plan)
        self.assertEqual(deeds(plan, start), [told(0, "on"), told(1, "on")])
        there = do(plan, start, told(1, "on"))
        self.assertEqual(there, (((0, (0,), ()), (1, (0,), ())), ()))
        self.assertEqual(deeds(plan, there), [told(0, "on"), told(1, "off")])
        self.assertEqual(do(plan, there, told(1, "off")), (((0, (0,), ()), (0, (1,), ())), ()))
        full = with_hand(start, 0, (1, (2,), ()))
        self.assertEqual(deeds(plan, full), [told(0, "stay"), told(1, "on")])
        self.assertEqual(do(plan, full, told(0, "stay")), full)

    def test_dry(self):
        plan = read_plan(self.PLAN)
        dry = (((2, (0,), ()), (1, (3,), ())), ())
        self.assertEqual(deeds(plan, dry), [])
        self.assertEqual(ends_from(plan, dry), [])


class TakeTest(StandingCase):
    TEXT = """family f 1 r s
cell c 0 9 1
cell d -9 0 0
who w
step bare: at r; take m from g; go s
step cell: at r; take m from g into c; go s
step who: at r; take m from g by w; go s
step both: at r; take m from g into c by w; set d 0 - it - c; go s
family g 2 q
road g f KIND 3"""

    def plan(self, kind):
        return read_plan(self.TEXT.replace("KIND", kind))

    def test_what_each_take_fills(self):
        for kind in ("row", "heap"):
            plan = self.plan(kind)
            start = with_roads(plan, begin(plan), {(2, 0): (("m", 4), ("m", 5))})
            for name, own in [("bare", (1, (1, 0), (-1,))), ("cell", (1, (4, 0), (-1,))), ("who", (1, (1, 0), (2,))),
                              ("both", (1, (4, -5), (2,)))]:
                end = self.end_of(plan, start, told(0, name, (2, 0)))
                self.assertEqual(end[0], (own, (0, (), ()), (0, (), ())))
                self.assertEqual(end[1], ((), (("m", 5),)))

    def test_a_row_gives_its_first_letter_alone(self):
        plan = self.plan("row")
        start = with_roads(plan, begin(plan), {(1, 0): (("n", 4), ("m", 5)), (2, 0): (("m", 3), ("m", 2), ("m", 3))})
        self.assertEqual(deeds(plan, start), [told(0, name, (2, 0)) for name in ("bare", "cell", "who", "both")])
        end = do(plan, start, told(0, "bare", (2, 0)))
        self.assertEqual(end[1], ((("n", 4), ("m", 5)), (("m", 2), ("m", 3))))
        self.not_possible(plan, start, told(0, "bare", (2, 1)))
        self.not_possible(plan, start, told(0, "bare", (1, 1)))

    def test_a_heap_gives_each_unlike_letter_of_the_mark(self):
        plan = self.plan("heap")
        start = with_roads(plan, begin(plan), {(1, 0): (("a", 9), ("m", 2), ("n", 1)),
                                               (2, 0): (("m", 1), ("m", 3), ("m", 3))})
        letters = [deed[3] for deed in deeds(plan, start) if deed[2] == "bare"]
        self.assertEqual(letters, [(1, 1), (2, 0), (2, 1)])
        self.assertEqual(do(plan, start, told(0, "bare", (2, 1)))[1][1], (("m", 1), ("m", 3)))
        self.assertEqual(do(plan, start, told(0, "bare", (1, 1)))[1][0], (("a", 9), ("n", 1)))
        self.not_possible(plan, start, told(0, "bare", (2, 2)))
        self.not_possible(plan, start, told(0, "bare", (1, 0)))

    def test_nothing_to_take(self):
        plan = self.plan("row")
        self.assertEqual(deeds(plan, begin(plan)), [])

    def test_numbers_at_and_beyond_the_cells_bounds(self):
        plan = self.plan("row")
        for number, possible in [(0, True), (9, True), (10, False), (-1, False), (999, False)]:
            start = with_roads(plan, begin(plan), {(1, 0): (("m", number),)})
            self.assertEqual(told(0, "cell", (1, 0)) in deeds(plan, start), possible, number)
            self.assertIn(told(0, "bare", (1, 0)), deeds(plan, start))
            self.assertIn(told(0, "who", (1, 0)), deeds(plan, start))


class ChangeTest(StandingCase):
    PLAN = """family f 1 r
cell a 0 9 2
cell b -4 5 3
step swap: at r; set a b; set b a; go r
step sum: at r; set b a - b - 2; go r
step up: at r; set a a * 3 + b; go r
step over: at r; set a a * 4 + b; go r
step low: at r; set b 0 - a * 2; go r
step under: at r; set b 0 - a - b; go r"""

    def test_sums_are_reckoned_with_the_cells_ahead(self):
        plan = read_plan(self.PLAN)
        start = begin(plan)
        self.assertEqual(do(plan, start, told(0, "swap"))[0][0], (0, (3, 2), ()))
        self.assertEqual(do(plan, start, told(0, "sum"))[0][0], (0, (2, -3), ()))

    def test_at_and_beyond_the_bounds(self):
        plan = read_plan(self.PLAN)
        start = begin(plan)
        self.assertEqual(do(plan, start, told(0, "up"))[0][0], (0, (9, 3), ()))
        self.not_possible(plan, start, told(0, "over"))
        self.assertEqual(do(plan, start, told(0, "low"))[0][0], (0, (2, -4), ()))
        self.not_possible(plan, start, told(0, "under"))
        self.assertEqual([deed[2] for deed in deeds(plan, start)], ["swap", "sum", "up", "low"])

    def test_a_letter_reckons_with_the_cells_ahead(self):
        plan = read_plan("family f 1 r\ncell a 0 9 2\ncell b 0 9 0\nstep x: at r; take m from g into a; "
                         "set b a + it; send n a to all g; send n b + it to all g; go r\n"
                         "family g 1 q\nroad f g row 3\nroad g f row 3")
        start = with_roads(plan, begin(plan), {(1, 0): (("m", 5),)})
        self.assertEqual(do(plan, start, told(0, "x", (1, 0))),
                         (((0, (5, 7), ()), (0, (), ())), ((("n", 2), ("n", 5)), ())))


class SendTest(StandingCase):
    PLAN = """family f 3 r
cell c -9 0 0
who w
step reply: at r; take m from f by w; send m it to who w; go r
step tell: at r; send m 1 to who w; go r
step all: at r; send m 2 to all f; go r
step any: at r; send m 3 to any f; go r
step mixed: at r; send a 1 to any f; send b 2 to all f; send c 3 to any g; go r
step twice: at r; send m 5 to all f; send m 4 to all f; go r
family g 2 q
road f f ROWS 2
road f g row 1"""

    def plan(self, kind="row"):
        return read_plan(self.PLAN.replace("ROWS", kind))

    def test_to_a_who(self):
        plan = self.plan()
        start = begin(plan)
        for who, pair in [(1, (0, 1)), (2, (0, 2)), (3, (0, 3)), (4, (0, 4))]:
            there = with_hand(start, 0, (0, (0,), (who,)))
            end = self.end_of(plan, there, told(0, "tell"))
            self.assertEqual(end, with_roads(plan, there, {pair: (("m", 1),)}))

    def test_to_nobody_and_to_the_doer(self):
        plan = self.plan()
        start = begin(plan)
        self.not_possible(plan, start, told(0, "tell"))
        self.not_possible(plan, with_hand(start, 0, (0, (0,), (0,))), told(0, "tell"))

    def test_to_the_who_behind_the_take(self):
        plan = self.plan()
        start = with_hand(with_roads(plan, begin(plan), {(2, 0): (("m", 7),)}), 0, (0, (0,), (1,)))
        end = self.end_of(plan, start, told(0, "reply", (2, 0)))
        self.assertEqual(end[0][0], (0, (0,), (2,)))
        self.assertEqual(end[1], with_roads(plan, begin(plan), {(0, 2): (("m", 7),)})[1])

    def test_where_no_road_leads(self):
        plan = read_plan("family f 1 r\nwho w\nstep x: at r; take m from g by w; send m 0 to who w; go r\n"
                         "step y: at r; send m 0 to who w; go r\nfamily g 1 q\nroad g f row 1")
        start = with_roads(plan, begin(plan), {(1, 0): (("m", 0),)})
        self.assertEqual(deeds(plan, start), [])
        self.not_possible(plan, with_hand(start, 0, (0, (), (1,))), told(0, "y"))

    def test_to_all(self):
        plan = self.plan()
        start = begin(plan)
        end = self.end_of(plan, start, told(1, "all"))
        self.assertEqual(end, with_roads(plan, start, {(1, 0): (("m", 2),), (1, 2): (("m", 2),)}))

    def test_to_all_where_the_doer_is_alone(self):
        plan = read_plan("family f 1 r s\nstep x: at r; send m 5 to all f; go s\n"
                         "step y: at r; send m 5 to any f; go s\nroad f f row 1")
        self.assertEqual(ends_from(plan, begin(plan)), [(told(0, "x"), (((1, (), ()),), ()))])

    def test_to_any(self):
        plan = self.plan()
        start = begin(plan)
        chosen = [deed for deed in deeds(plan, start) if deed[1:3] == (1, "any")]
        self.assertEqual(chosen, [told(1, "any", None, (0,)), told(1, "any", None, (2,))])
        self.assertEqual(do(plan, start, chosen[1]), with_roads(plan, start, {(1, 2): (("m", 3),)}))
        self.not_possible(plan, start, told(1, "any", None, (1,)))
        self.not_possible(plan, start, told(1, "any", None, (3,)))
        self.not_possible(plan, start, told(1, "any", None, ()))

    def test_ways_together(self):
        plan = self.plan()
        start = begin(plan)
        chosen = [deed[4] for deed in deeds(plan, start) if deed[1:3] == (0, "mixed")]
        self.assertEqual(chosen, [(1, 3), (1, 4), (2, 3), (2, 4)])
        end = do(plan, start, told(0, "mixed", None, (2, 3)))
        self.assertEqual(end, with_roads(plan, start, {(0, 1): (("b", 2),), (0, 2): (("a", 1), ("b", 2)),
                                                       (0, 3): (("c", 3),)}))

    def test_a_row_keeps_the_order_and_a_heap_ascends(self):
        for kind, letters in [("row", (("m", 5), ("m", 4))), ("heap", (("m", 4), ("m", 5)))]:
            plan = self.plan(kind)
            end = self.end_of(plan, begin(plan), told(0, "twice"))
            self.assertEqual(on_road(plan, end, 0, 1), letters)
            self.assertEqual(on_road(plan, end, 0, 2), letters)

    def test_a_heap_ascends_by_mark_then_number(self):
        plan = self.plan("heap")
        for there, letters in [((("a", 9),), (("a", 9), ("m", 2))), ((("z", -9),), (("m", 2), ("z", -9))),
                               ((("m", 2),), (("m", 2), ("m", 2))), ((("m", -3),), (("m", -3), ("m", 2)))]:
            start = with_roads(plan, begin(plan), {(0, 1): there})
            self.assertEqual(on_road(plan, do(plan, start, told(0, "all")), 0, 1), letters)

    def test_full_roads(self):
        plan = self.plan()
        one, two = (("m", 1),), (("m", 1), ("m", 1))
        start = with_roads(plan, begin(plan), {(0, 1): two})
        self.not_possible(plan, start, told(0, "all"))
        self.not_possible(plan, start, told(0, "any", None, (1,)))
        self.assertIn(told(0, "any", None, (2,)), deeds(plan, start))
        start = with_roads(plan, begin(plan), {(0, 1): one})
        self.assertIn(told(0, "all"), deeds(plan, start))
        self.not_possible(plan, start, told(0, "twice"))
        self.assertEqual([deed[4] for deed in deeds(plan, start) if deed[1:3] == (0, "mixed")], [(2, 3), (2, 4)])
        start = with_roads(plan, begin(plan), {(0, 4): one})
        self.assertEqual([deed[4] for deed in deeds(plan, start) if deed[1:3] == (0, "mixed")], [(1, 3), (2, 3)])

    def test_twice_on_one_road(self):
        plan = read_plan("family f 1 r\nstep x: at r; send a 2 to any g; send b 1 to any g; send c 0 to any g; go r\n"
                         "family g 2 q\nroad f g row 2")
        start = begin(plan)
        self.assertEqual([deed[4] for deed in deeds(plan, start)],
                         [(1, 1, 2), (1, 2, 1), (1, 2, 2), (2, 1, 1), (2, 1, 2), (2, 2, 1)])
        self.assertEqual(do(plan, start, told(0, "x", None, (1, 2, 1)))[1], ((("a", 2), ("c", 0)), (("b", 1),)))

    def test_letters_numbers_at_and_beyond_999(self):
        plan = read_plan("family f 1 r\ncell c -9 0 0\nstep up: at r; send m 999 + c + 1 to all g; go r\n"
                         "step down: at r; send m 0 - 999 - c - 1 to any g; go r\nfamily g 1 q\nroad f g row 1")
        self.assertEqual(deeds(plan, begin(plan)), [])
        start = with_hand(begin(plan), 0, (0, (-1,), ()))
        self.assertEqual(deeds(plan, start), [told(0, "up"), told(0, "down", None, (1,))])
        self.assertEqual([end[1][1] for end in ends_from(plan, start)], [((("m", 999),),), ((("m", -999),),)])


class FlawTest(StandingCase):
    def plan(self, kind, room, flaws):
        return read_plan(f"family f 2 r\nroad f f {kind} {room}{flaws}")

    def start(self, plan, letters, back=()):
        return with_roads(plan, begin(plan), {(0, 1): letters, (1, 0): back})

    def test_roads_without_flaws(self):
        plan = self.plan("row", 3, "")
        self.assertEqual(deeds(plan, self.start(plan, (("m", 1),))), [])

    def test_nothing_to_lose_or_double(self):
        plan = self.plan("heap", 3, " loses doubles")
        self.assertEqual(deeds(plan, begin(plan)), [])

    def test_losses_in_a_row(self):
        plan = self.plan("row", 3, " loses")
        a, b = ("m", 1), ("k", 2)
        self.assertEqual(
            [(deed, end[1]) for deed, end in ends_from(plan, self.start(plan, (a, a, b)))],
            [(("lose", 0, 1, 0), ((a, b), ())), (("lose", 0, 1, 1), ((a, b), ())), (("lose", 0, 1, 2), ((a, a), ()))])

    def test_losses_in_a_heap(self):
        plan = self.plan("heap", 3, " loses")
        a, b = ("k", 2), ("m", 1)
        self.assertEqual(
            [(deed, end[1]) for deed, end in ends_from(plan, self.start(plan, (a, b, b)))],
            [(("lose", 0, 1, 0), ((b, b), ())), (("lose", 0, 1, 1), ((a, b), ()))])
        self.not_possible(plan, self.start(plan, (a, b, b)), ("lose", 0, 1, 2))

    def test_doublings_in_a_row(self):
        plan = self.plan("row", 3, " doubles")
        a, b = ("m", 1), ("k", 2)
        self.assertEqual(
            [(deed, end[1]) for deed, end in ends_from(plan, self.start(plan, (a, b)))],
            [(("double", 0, 1, 0), ((a, a, b), ())), (("double", 0, 1, 1), ((a, b, b), ()))])
        self.assertEqual(len(deeds(plan, self.start(plan, (a, a)))), 2)

    def test_doublings_in_a_heap(self):
        plan = self.plan("heap", 3, " doubles")
        a, b = ("k", 2), ("m", 1)
        self.assertEqual(
            [(deed, end[1]) for deed, end in ends_from(plan, self.start(plan, (a, b)))],
            [(("double", 0, 1, 0), ((a, a, b), ())), (("double", 0, 1, 1), ((a, b, b), ()))])
        self.assertEqual(deeds(plan, self.start(plan, (a, a))), [("double", 0, 1, 0)])

    def test_letters_alike_in_mark_or_number_alone_are_unlike(self):
        plan = self.plan("heap", 3, " loses")
        letters = (("k", 1), ("k", 2), ("m", 2))
        self.assertEqual([deed[3] for deed in deeds(plan, self.start(plan, letters))], [0, 1, 2])

    def test_full_roads_double_nothing(self):
        for kind in ("row", "heap"):
            for room in (1, 2, 3):
                plan = self.plan(kind, room, " loses doubles")
                words = [deed[0] for deed in deeds(plan, self.start(plan, (("m", 1),) * room))]
                self.assertEqual(set(words), {"lose"}, (kind, room))

    def test_hands_are_left_as_they_are(self):
        plan = read_plan("family f 1 r s\ncell c 0 3 1\nwho w\nfamily g 1 q\nroad g f row 3 loses doubles")
        start = with_hand(with_roads(plan, begin(plan), {(1, 0): (("m", 1),)}), 0, (1, (2,), (1,)))
        self.assertEqual([end[0] for deed, end in ends_from(plan, start)], [start[0]] * 2)


class OrderTest(StandingCase):
    PLAN = """family f 2 r
step take: at r; take m from g; go r
step swap: at r; take m from g; send m it to any f; send n it to any g; go r
step free: at r; go r
family g 2 q
step end: at q; go q
road g f heap 3 loses
road f g row 2 doubles
road f f row 3 loses doubles"""

    def test_the_whole_order(self):
        plan = read_plan(self.PLAN)
        start = with_roads(plan, begin(plan), {
            (2, 0): (("k", 0), ("m", 1), ("m", 2)), (3, 0): (("m", 1), ("m", 1)), (1, 2): (("x", 1),), (0, 1): (("x", 1),),
            (1, 0): (("y", 1), ("y", 1)),
        })
        swaps = [told(0, "swap", letter, (1, target)) for letter in [(2, 1), (2, 2), (3, 0)] for target in (2, 3)]
        self.assertEqual(deeds(plan, start), [
            told(0, "take", (2, 1)), told(0, "take", (2, 2)), told(0, "take", (3, 0)), *swaps, told(0, "free"),
            told(1, "free"), told(2, "end"), told(3, "end"),
            ("lose", 2, 0, 0), ("lose", 2, 0, 1), ("lose", 2, 0, 2), ("lose", 3, 0, 0), ("lose", 0, 1, 0),
            ("lose", 1, 0, 0), ("lose", 1, 0, 1),
            ("double", 1, 2, 0), ("double", 0, 1, 0), ("double", 1, 0, 0), ("double", 1, 0, 1),
        ])

    def test_steps_stand_as_the_family_tells_them(self):
        plan = read_plan("family f 1 r\nstep z: at r; go r\nstep a: at r; go r\nstep m: at r; go r")
        self.assertEqual([deed[2] for deed in deeds(plan, begin(plan))], ["z", "a", "m"])

    def test_roads_stand_as_the_plan_tells_them(self):
        plan = read_plan("family f 1 r\nfamily g 1 r\nroad g f row 1 loses\nroad f g row 1 loses")
        start = with_roads(plan, begin(plan), {(0, 1): (("m", 0),), (1, 0): (("m", 0),)})
        self.assertEqual(deeds(plan, start), [("lose", 1, 0, 0), ("lose", 0, 1, 0)])


class DoTest(StandingCase):
    def all_comings(self, plan, most):
        comings = [begin(plan)]
        for standing in comings:
            for deed, end in ends_from(plan, standing):
                if end not in comings and len(comings) < most:
                    comings.append(end)
        return comings

    def test_do_at_each_possible_deed(self):
        for plan in (small_plan(), read_plan(SendTest.PLAN.replace("ROWS", "heap"))):
            check_plan(plan)
            comings = self.all_comings(plan, 60)
            self.assertGreater(len(comings), 50)
            for standing in comings:
                ends = ends_from(plan, standing)
                self.assertEqual([end[0] for end in ends], deeds(plan, standing))
                self.assertEqual(len(set(deeds(plan, standing))), len(ends))
                for deed, end in ends:
                    self.assertEqual(do(plan, standing, deed), end)

    def test_no_deeds(self):
        plan = read_plan(OrderTest.PLAN)
        start = with_roads(plan, begin(plan), {(2, 0): (("m", 1),), (1, 2): (("x", 1),)})
        for deed in deeds(plan, start):
            self.assertIsNotNone(do(plan, start, deed))
            self.assertRaises(NoDeed, do, plan, start, ("other",) + deed[1:])
            self.assertRaises(NoDeed, do, plan, start, deed + (None,))
            for place in range(len(deed)):
                self.assertRaises(NoDeed, do, plan, start, deed[:place] + deed[place + 1:])
                for piece in ("no", 99, -2, (), [], (7,), ("a", "b"), {}, [deed[place]]):
                    if piece != deed[place]:
                        self.assertRaises(NoDeed, do, plan, start, deed[:place] + (piece,) + deed[place + 1:])
        for deed in [(), ("step",), ("lose",), ("double", 0, 1), (("step", 0, "free", None, ()),), (None,), ("", 0, 0, 0)]:
            self.assertRaises(NoDeed, do, plan, start, deed)

    def test_deeds_of_another_standing(self):
        plan = small_plan()
        start = begin(plan)
        asked = do(plan, start, told(0, "ask"))
        taking = told(2, "take", (0, 0))
        self.not_possible(plan, start, taking)
        self.assertIn(taking, deeds(plan, asked))
        self.not_possible(plan, asked, told(0, "ask"))


class OwnTest(StandingCase):
    def test_nothing_handed_in_is_changed(self):
        plan = small_plan()
        before = copy.deepcopy(plan)
        standing = begin(plan)
        for _ in range(6):
            ahead = copy.deepcopy(standing)
            families_of(plan)
            pairs_of(plan)
            ends = ends_from(plan, standing)
            deed = copy.deepcopy(ends[0][0])
            do(plan, standing, deed)
            self.assertEqual(deed, deeds(plan, standing)[0])
            self.assertEqual(standing, ahead)
            self.assertEqual(plan, before)
            standing = ends[0][1]

    def test_lists_that_are_told_are_the_askers_own(self):
        plan = small_plan()
        for asked in (lambda: families_of(plan), lambda: pairs_of(plan), lambda: deeds(plan, begin(plan)),
                      lambda: ends_from(plan, begin(plan))):
            first = asked()
            kept = list(first)
            first.append("more")
            first[0] = None
            self.assertEqual(asked(), kept)
            self.assertEqual(begin(plan), begin(small_plan()))


class StoryTest(StandingCase):
    def test_small_plan(self):
        plan = small_plan()
        standing = begin(plan)
        self.assertEqual(standing, (((0, (0, -1), ()), (0, (0, -1), ()), (0, (0,), (-1,))), ((), (), (), ())))
        for deed, end in [
            (told(1, "ask"), (((0, (0, -1), ()), (1, (1, -1), ()), (0, (0,), (-1,))), ((), (("ask", 0),), (), ()))),
            (told(2, "take", (1, 0)), (((0, (0, -1), ()), (1, (1, -1), ()), (1, (0,), (1,))), ((), (), (), ()))),
            (told(2, "tell"), (((0, (0, -1), ()), (1, (1, -1), ()), (0, (0,), (1,))), ((), (), (), (("tell", -1),)))),
            (("double", 2, 1, 0), (((0, (0, -1), ()), (1, (1, -1), ()), (0, (0,), (1,))),
                                   ((), (), (), (("tell", -1), ("tell", -1))))),
            (told(1, "hear", (2, 0)), (((0, (0, -1), ()), (0, (1, -1), ()), (0, (0,), (1,))),
                                       ((), (), (), (("tell", -1),)))),
        ]:
            standing = self.end_of(plan, standing, deed)
            self.assertEqual(standing, end)


if __name__ == "__main__":
    unittest.main()
