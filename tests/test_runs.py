import copy
import unittest

from roadsall.errors import NotPossible, RoadError
from roadsall.plans import read_plan
from roadsall.runs import able, done_by, keeps, walked, wishes_of
from roadsall.standings import begin, deeds, do
from oracle import chance_plans
from samples import small_plan, told, with_hand, with_roads

POST = """family f 2 r s
cell c 0 1 0
step send: at r; when c = 0; send m c to all g; go s
step up: at s; set c c + 1; go r
step back: at s; go r
family g 1 q
who w
step take: at q; take m from f by w; go q
step send: at q; take m from f by w; go q
family h 2 p
road f g heap 1 loses doubles
wish weak g take
wish strong f send
wish weak f up
wish strong g take
wish strong f up"""


class WalkedTest(unittest.TestCase):
    RUN = [told(1, "send"), told(2, "take", (1, 0)), told(1, "back"), told(1, "send"), ("lose", 1, 2, 0)]

    def test_no_deeds(self):
        for plan in (read_plan(POST), small_plan(), read_plan("family f 1 r")):
            self.assertEqual(walked(plan, []), [begin(plan)])

    def test_one_standing_more_than_deeds(self):
        plan = read_plan(POST)
        standings = walked(plan, self.RUN)
        expected = [begin(plan)]
        for deed in self.RUN:
            expected.append(do(plan, expected[-1], deed))
        self.assertEqual(standings, expected)
        self.assertEqual(len(standings), 6)
        away, home = (1, (0,), ()), (0, (0,), ())
        taken = (0, (), (1,))
        others = ((0, (), ()),) * 2
        self.assertEqual(standings, [
            ((home, home, (0, (), (-1,))) + others, ((), ())),
            ((home, away, (0, (), (-1,))) + others, ((), (("m", 0),))),
            ((home, away, taken) + others, ((), ())),
            ((home, home, taken) + others, ((), ())),
            ((home, away, taken) + others, ((), (("m", 0),))),
            ((home, away, taken) + others, ((), ())),
        ])

    def test_each_beginning_of_a_run_is_one(self):
        plan = read_plan(POST)
        for length in range(len(self.RUN)):
            self.assertEqual(walked(plan, self.RUN[:length]), walked(plan, self.RUN)[:length + 1])

    def test_not_possible_at_each_place(self):
        plan = read_plan(POST)
        for place in range(len(self.RUN)):
            for wrong in [told(1, "take", (1, 0)), told(0, "up", None, (1,)), ("double", 1, 2, 0), (), ("step",), (None,)]:
                row = self.RUN[:place] + [wrong] + self.RUN[place + 1:]
                with self.assertRaises(NotPossible) as caught:
                    walked(plan, row)
                self.assertEqual(caught.exception.place, place)
                self.assertIsInstance(caught.exception, RoadError)

    def test_the_first_place_of_several(self):
        plan = read_plan(POST)
        for row, place in [([told(0, "up")] * 3, 0), (self.RUN + [told(0, "up")] * 2, 5),
                           ([self.RUN[0], self.RUN[0], self.RUN[1]], 1)]:
            with self.assertRaises(NotPossible) as caught:
                walked(plan, row)
            self.assertEqual(caught.exception.place, place)

    def test_a_run_to_a_dry_standing_ends(self):
        plan = read_plan("family f 1 r s\nstep x: at r; go s")
        self.assertEqual(walked(plan, [told(0, "x")]), [(((0, (), ()),), ()), (((1, (), ()),), ())])
        for deed in (told(0, "x"), ("lose", 0, 0, 0)):
            with self.assertRaises(NotPossible) as caught:
                walked(plan, [told(0, "x"), deed])
            self.assertEqual(caught.exception.place, 1)

    def test_runs_by_chance(self):
        many = 0
        for seed, plan, rows in chance_plans(5, 60, range(60)):
            for standing, ahead, deed in rows:
                row = []
                while ahead is not None:
                    row.insert(0, deed)
                    ahead, deed = rows[ahead][1:]
                standings = walked(plan, row)
                self.assertEqual(standings[-1], standing)
                self.assertEqual(len(standings), len(row) + 1)
                for here, there, behind in zip(standings, row, standings[1:]):
                    self.assertEqual(do(plan, here, there), behind)
                many += 1
        self.assertGreater(many, 200)


class WishTest(unittest.TestCase):
    def test_wishes_by_places_then_hands(self):
        plan = read_plan(POST)
        self.assertEqual(wishes_of(plan), [(0, 2), (1, 0), (1, 1), (2, 0), (2, 1), (3, 2), (4, 0), (4, 1)])
        self.assertEqual(wishes_of(small_plan()), [(0, 2), (1, 0), (1, 1)])

    def test_no_wishes(self):
        self.assertEqual(wishes_of(read_plan("family f 2 r\nstep x: at r; go r")), [])

    def test_done_by_that_step_of_that_hand_alone(self):
        plan = read_plan(POST)
        for wish, deed, done in [
            ((1, 0), told(0, "send"), True), ((1, 0), told(1, "send"), False), ((1, 1), told(1, "send"), True),
            ((1, 0), told(0, "up"), False), ((1, 0), told(2, "send", (0, 0)), False), ((0, 2), told(2, "take", (0, 0)), True),
            ((0, 2), told(2, "take", (1, 0)), True), ((0, 2), told(2, "send", (1, 0)), False), ((2, 1), told(1, "up"), True),
            ((2, 1), told(1, "back"), False), ((3, 2), told(2, "take", (1, 0)), True),
            ((1, 0), ("lose", 0, 2, 0), False), ((1, 0), ("double", 0, 2, 0), False), ((0, 2), ("lose", 0, 2, 0), False),
        ]:
            self.assertIs(done_by(plan, wish, deed), done, (wish, deed))

    def test_done_whatever_hands_are_chosen(self):
        plan = read_plan("family f 1 r\nstep x: at r; send m 1 to any g; go r\nfamily g 2 q\nroad f g row 1\nwish weak f x")
        for deed in deeds(plan, begin(plan)):
            self.assertIs(done_by(plan, (0, 0), deed), True)
        self.assertEqual(len(deeds(plan, begin(plan))), 2)

    def test_able_where_such_a_deed_is_possible(self):
        plan = read_plan(POST)
        start = begin(plan)
        sent = do(plan, start, told(0, "send"))
        spent = with_hand(start, 0, (1, (1,), ()))
        for standing, wish, truth in [
            (start, (1, 0), True), (start, (1, 1), True), (start, (0, 2), False), (start, (2, 0), False),
            (sent, (1, 0), False), (sent, (1, 1), True), (sent, (0, 2), True), (sent, (3, 2), True),
            (sent, (2, 0), True), (sent, (2, 1), False),
            # The cell would go beyond its highest; the condition doesn't hold; the road is full.
            (spent, (2, 0), False), (with_hand(start, 0, (0, (1,), ())), (1, 0), False),
            (with_roads(plan, start, {(0, 2): (("m", 0),)}), (1, 0), False),
            (with_roads(plan, start, {(0, 2): (("m", 0),)}), (1, 1), True),
            (with_roads(plan, start, {(0, 2): (("n", 0),)}), (0, 2), False),
        ]:
            self.assertIs(able(plan, standing, wish), truth, (standing, wish))

    def test_able_by_chance(self):
        for seed, plan, rows in chance_plans(5, 60, range(60)):
            for standing, ahead, deed in rows:
                for wish in wishes_of(plan):
                    possible = [deed for deed in deeds(plan, standing) if done_by(plan, wish, deed)]
                    self.assertIs(able(plan, standing, wish), possible != [])


class KeepsTest(unittest.TestCase):
    # The hand f is able to do x in room r alone; g goes round in any room.
    PLAN = """family f 2 r s
step x: at r; go r
step off: at r; go s
step on: at s; go r
wish weak f x
wish strong f x"""

    def rounds(self, start, row):
        plan = read_plan(self.PLAN)
        standings = walked(plan, start + row)
        self.assertEqual(standings[-1], standings[len(start)])
        return [keeps(plan, wish, standings[len(start):-1], row) for wish in [(0, 0), (1, 0)]]

    def test_done_in_the_round(self):
        self.assertEqual(self.rounds([], [told(0, "x")]), [True, True])
        self.assertEqual(self.rounds([], [told(1, "x"), told(0, "x"), told(1, "x")]), [True, True])
        self.assertEqual(self.rounds([], [told(0, "off"), told(0, "on"), told(0, "x")]), [True, True])

    def test_able_at_each_standing_and_not_done(self):
        self.assertEqual(self.rounds([], [told(1, "x")]), [False, False])
        self.assertEqual(self.rounds([], [told(1, "off"), told(1, "on")]), [False, False])

    def test_not_able_at_some_standing(self):
        # A weak wish is kept by that, a strong one isn't.
        self.assertEqual(self.rounds([], [told(0, "off"), told(0, "on")]), [True, False])
        self.assertEqual(self.rounds([told(0, "off")], [told(0, "on"), told(0, "off")]), [True, False])
        self.assertEqual(self.rounds([], [told(1, "x"), told(0, "off"), told(1, "x"), told(0, "on")]), [True, False])

    def test_able_at_no_standing(self):
        self.assertEqual(self.rounds([told(0, "off")], [told(1, "x")]), [True, True])
        self.assertEqual(self.rounds([told(0, "off")], [told(1, "off"), told(1, "on")]), [True, True])

    def test_each_hand_apart(self):
        plan = read_plan(self.PLAN)
        row = [told(1, "x")]
        standings = walked(plan, row)[:1]
        kept = [keeps(plan, wish, standings, row) for wish in wishes_of(plan)]
        self.assertEqual(kept, [False, True, False, True])
        self.assertTrue(all(truth is True or truth is False for truth in kept))

    def test_a_row_that_does_not_come_back(self):
        plan = read_plan(self.PLAN)
        row = [told(1, "x"), told(0, "off")]
        standings = walked(plan, row)
        self.assertIs(keeps(plan, (0, 0), standings[:2], row), False)
        self.assertIs(keeps(plan, (0, 1), standings[:2], row), True)
        row = [told(0, "off"), told(1, "x")]
        self.assertIs(keeps(plan, (0, 0), walked(plan, row)[:2], row), True)
        self.assertIs(keeps(plan, (1, 0), walked(plan, row)[:2], row), False)

    def test_losses_and_doublings_do_no_wish(self):
        plan = read_plan("family f 1 r\nstep x: at r; take m from g; go r\nfamily g 1 q\nroad g f row 2 loses doubles\n"
                         "wish weak f x\nwish strong f x")
        standing = with_roads(plan, begin(plan), {(1, 0): (("m", 1),)})
        row = [("double", 1, 0, 0), ("lose", 1, 0, 0)]
        standings = [standing, do(plan, standing, row[0])]
        self.assertEqual([keeps(plan, wish, standings, row) for wish in wishes_of(plan)], [False, False])


class OwnTest(unittest.TestCase):
    def test_nothing_handed_in_is_changed(self):
        plan = read_plan(POST)
        row = list(WalkedTest.RUN)
        before = copy.deepcopy((plan, row))
        standings = walked(plan, row)
        told_first = list(standings)
        for wish in wishes_of(plan):
            able(plan, standings[0], wish)
            done_by(plan, wish, row[0])
            keeps(plan, wish, standings, row)
        self.assertRaises(NotPossible, walked, plan, row + [()])
        self.assertEqual((plan, row[:5]), before)
        self.assertEqual(standings, told_first)

    def test_lists_that_are_told_are_the_askers_own(self):
        plan = read_plan(POST)
        for asked in (lambda: walked(plan, WalkedTest.RUN), lambda: walked(plan, []), lambda: wishes_of(plan)):
            first = asked()
            kept = list(first)
            first.append("more")
            first[0] = None
            self.assertEqual(asked(), kept)


if __name__ == "__main__":
    unittest.main()
