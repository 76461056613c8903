import copy
import random
import unittest

from roadsall.errors import TooMany
from roadsall.facts import comings, truths
from roadsall.goers import folded, is_plain, is_quiet_hand, thinned, whole
from roadsall.plans import read_plan
from roadsall.renamings import least
from roadsall.standings import begin, do, ends_from
from roadsall.words import read_condition
from oracle import chance_fact, chance_plans, is_quiet, least_of_all, thinning_faults
from samples import cells_plan, one_more_plan, told, with_hand

TRUE = ("true",)

# Of each pair of f ten least ones, of g 200 standings.
JUST_FOLDED = """family f 2 r s t u
step a: at r; go s
step b: at s; go t
step c: at t; go u
family g 1 r s
cell a 0 9 0
cell b 0 9 0
step ra: at r; set a a + 1; go r
step rb: at r; set b b + 1; go r
step o: at r; go s
step sa: at s; set a a + 1; go s
step sb: at s; set b b + 1; go s"""

# Of each pair of f three least ones, of g 667 standings, as the number of its three figures is at most 666.
ONE_MORE_FOLDED = """family f 2 r s
step a: at r; go s
family g 1 r
cell a 0 9 0
cell b 0 9 0
cell c 0 9 0
step a: at r; when a + 10 * b + 100 * c + 1 <= 666; set a a + 1; go r
step b: at r; when a + 10 * b + 100 * c + 10 <= 666; set b b + 1; go r
step c: at r; when a + 10 * b + 100 * c + 100 <= 666; set c c + 1; go r"""

WHO = """family f 3 r s
who w
step ask: at r; send m 0 to any f; go s
step hear: at s; take m from f by w; go r
road f f heap 1"""


class WholeTest(unittest.TestCase):
    def test_rows(self):
        plan = read_plan("family f 2 r s\nstep a: at r; go s\nstep b: at r; go s\nstep c: at s; go r")
        home, away = (0, (), ()), (1, (), ())
        self.assertEqual(whole(plan), [
            (((home, home), ()), None, None), (((away, home), ()), 0, told(0, "a")), (((home, away), ()), 0, told(1, "a")),
            (((away, away), ()), 1, told(1, "a")),
        ])

    def test_one_row(self):
        plan = read_plan("family f 2 r\nstep x: at r; go r")
        self.assertEqual(whole(plan), [(begin(plan), None, None)])

    def test_losses_and_doublings(self):
        plan = read_plan("family f 1 r s\nstep x: at r; send m 1 to all g; go s\nfamily g 1 q\nroad f g row 2 loses doubles")
        self.assertEqual([row[1:] for row in whole(plan)], [
            (None, None), (0, told(0, "x")), (1, ("lose", 0, 1, 0)), (1, ("double", 0, 1, 0))])

    def test_the_first_place_ahead_and_the_first_deed(self):
        many = 0
        for seed, plan, rows in chance_plans(1, 100, range(150)):
            self.assertEqual(whole(plan), rows, seed)
            for place, (standing, ahead, deed) in enumerate(rows[1:], start=1):
                self.assertLess(ahead, place)
                self.assertEqual(do(plan, rows[ahead][0], deed), standing)
                first = [deed for deed, end in ends_from(plan, rows[ahead][0]) if end == standing][0]
                self.assertEqual(deed, first)
                for earlier in rows[:ahead]:
                    self.assertNotIn(standing, [end for deed, end in ends_from(plan, earlier[0])])
                many += 1
        self.assertGreater(many, 500)

    def test_standings_are_those_that_come(self):
        for text in (WHO, JUST_FOLDED.replace("f 2", "f 1")):
            plan = read_plan(text)
            self.assertEqual([row[0] for row in whole(plan)], comings(plan))

    def test_just_2000_and_one_more(self):
        found = whole(cells_plan())
        self.assertEqual(len(found), 2000)
        self.assertEqual(found[-1][0], (((1, (9, 9, 9), ()),), ()))
        self.assertRaises(TooMany, whole, one_more_plan())
        self.assertEqual(whole(cells_plan()), found)


class FoldedTest(unittest.TestCase):
    def test_least_ones_in_order(self):
        plan = read_plan("family f 2 r s t\nstep a: at r; go t\nstep b: at r; go s\nstep c: at s; go t")
        self.assertEqual([[hand[0] for hand in standing[0]] for standing in folded(plan)],
                         [[0, 0], [0, 2], [0, 1], [2, 2], [1, 2], [1, 1]])

    def test_one_hand_each_folds_nothing(self):
        plan = read_plan(JUST_FOLDED.replace("f 2", "f 1"))
        self.assertEqual(folded(plan), comings(plan))

    def slow(self, plan):
        rows = [least_of_all(plan, begin(plan))[0]]
        known = set(rows)
        for standing in rows:
            for deed, end in ends_from(plan, standing):
                lowest = least_of_all(plan, end)[0]
                if lowest not in known:
                    known.add(lowest)
                    rows.append(lowest)
        return rows

    def test_by_chance(self):
        fewer = 0
        for seed, plan, rows in chance_plans(1, 100, range(150)):
            found = folded(plan)
            self.assertEqual(found, self.slow(plan), seed)
            self.assertEqual(len(found), len(set(found)))
            self.assertEqual(set(found), {least(plan, row[0])[0] for row in rows})
            fewer += len(found) < len(rows)
        self.assertGreater(fewer, 20)

    def test_whos_and_letters(self):
        plan = read_plan(WHO)
        found = folded(plan)
        self.assertEqual(found, self.slow(plan))
        self.assertEqual(set(found), {least(plan, standing)[0] for standing in comings(plan)})
        self.assertLess(len(found), len(comings(plan)))

    def test_just_2000_and_one_more(self):
        plan = read_plan(JUST_FOLDED)
        self.assertRaises(TooMany, whole, plan)
        found = folded(plan)
        self.assertEqual(len(found), 2000)
        self.assertEqual(len(set(found)), 2000)
        self.assertRaises(TooMany, folded, read_plan(ONE_MORE_FOLDED))
        self.assertEqual(len(folded(read_plan(ONE_MORE_FOLDED.replace("666", "665")))), 3 * 666)
        self.assertRaises(TooMany, folded, one_more_plan())
        self.assertEqual(len(folded(cells_plan())), 2000)
        self.assertEqual(folded(plan), found)

    def test_five_like_hands(self):
        plan = read_plan("family f 5 r s t u\n" + "\n".join(f"step {name}: at {at}; go {go}" for name, at, go in [
            ("a", "r", "s"), ("b", "s", "t"), ("c", "t", "u"), ("d", "u", "r")]))
        # Five hands in four rooms, the order aside.
        self.assertEqual(len(whole(plan)), 4 ** 5)
        self.assertEqual(len(folded(plan)), 56)


class PlainTest(unittest.TestCase):
    SOME = ("some", "f", "", TRUE)

    def test_plain(self):
        for fact in [TRUE, self.SOME, ("all", "f", "r", TRUE), ("many", "f", "r", TRUE, "<", 2),
                     ("letters", "f", "f", "", "=", 0), ("not", self.SOME), ("and", self.SOME, ("or", TRUE, self.SOME)),
                     ("some", "dry", "dry", read_condition("not dry = 1")), ("letters", "dry", "dry", "dry", "=", 0)]:
            self.assertIs(is_plain(fact), True, fact)

    def test_not_plain(self):
        for fact in [("dry",), ("some knows", "f", self.SOME), ("each knows", "f", TRUE)]:
            self.assertIs(is_plain(fact), False, fact)
            for deep in [("not", fact), ("and", fact, TRUE), ("and", TRUE, fact), ("or", fact, TRUE), ("or", TRUE, fact),
                         ("not", ("or", self.SOME, ("and", ("not", ("not", fact)), TRUE))),
                         ("some knows", "f", fact), ("and", self.SOME, ("not", ("or", TRUE, ("not", ("and", TRUE, fact)))))]:
                self.assertIs(is_plain(deep), False, deep)


class QuietTest(unittest.TestCase):
    PLAN = """family f 2 r s t u v
cell c 0 1 0
who w
step a: at r; go s
step b: at r; when c = 1; set c 0; go r
step c: at s; go t
step d: at s; when c = 1; take m from f; go t
step e: at t; when c = 1; send m 0 to all f; go u
step f: at v; send m 1 to who w; go r
family g 1 s
step a: at s; go s
road f f row 1"""

    def test_by_the_steps_at_the_room(self):
        plan = read_plan(self.PLAN)
        for room, quiet in [(0, True), (1, False), (2, False), (3, True), (4, False)]:
            for cell in (0, 1):
                standing = with_hand(begin(plan), 1, (room, (cell,), (-1,)))
                self.assertIs(is_quiet_hand(plan, standing, 1), quiet, (room, cell))
                self.assertIs(is_quiet_hand(plan, standing, 0), True)
                self.assertIs(is_quiet_hand(plan, standing, 2), True)

    def test_by_chance(self):
        for seed, plan, rows in chance_plans(5, 60, range(60)):
            for standing, ahead, deed in rows:
                for hand in range(len(standing[0])):
                    self.assertIs(is_quiet_hand(plan, standing, hand), is_quiet(plan, standing, hand))


class ThinnedTest(unittest.TestCase):
    # Each hand goes two steps by itself, then tells it.
    PLAN = """family f 3 r s t u
cell c 0 1 0
step a: at r; go s
step b: at s; set c 1; go t
step c: at t; send m c to all g; go u
family g 1 q
step hear: at q; take m from f; go q
road f g heap 1"""

    def good(self, plan, facts):
        rows = thinned(plan, facts)
        self.assertIsInstance(rows, list)
        self.assertTrue(all(isinstance(row, tuple) and len(row) == 3 for row in rows))
        self.assertEqual(thinning_faults(plan, facts, rows, set(comings(plan))), [])
        return rows

    def stand_alike(self, plan, facts, rows):
        web = comings(plan)
        some = [row[0] for row in rows]
        there = set(zip(*[truths(plan, fact, some) for fact in facts]))
        self.assertEqual(there, set(zip(*[truths(plan, fact, web) for fact in facts])))

    def test_fewer_rows_than_the_whole(self):
        plan = read_plan(self.PLAN)
        for facts in ([], [("true",)], [("letters", "f", "g", "m", ">", 1)]):
            rows = self.good(plan, facts)
            self.assertEqual(rows[0][0], begin(plan))
            self.assertLess(len(rows), len(whole(plan)))
            self.assertTrue(any(row[1] is not None for row in rows))
            self.assertTrue(any(row[1] is None for row in rows))

    def test_steps_that_a_fact_sees(self):
        plan = read_plan(self.PLAN)
        c_is_one = read_condition("c = 1")
        for part in [("f", "s", TRUE), ("f", "", c_is_one), ("f", "t", c_is_one), ("f", "s", read_condition("c = 0"))]:
            for fact in [("some",) + part, ("all",) + part, ("many",) + part + ("=", 2)]:
                for facts in ([fact], [("true",), ("not", fact)], [("or", ("true",), ("and", fact, fact))]):
                    rows = self.good(plan, facts)
                    self.stand_alike(plan, facts, rows)

    def test_what_a_fact_sees_may_not_be_put_off(self):
        # The step by which the hand comes into s, or its cell gets 1, is the only quiet one.
        for fact, seen in [(("some", "f", "s", TRUE), True), (("all", "f", "", read_condition("c = 1")), True),
                           (("many", "f", "r", TRUE, ">", 5), True), (("some", "f", "", read_condition("c < 5")), False)]:
            plan = read_plan("family f 2 r s\ncell c 0 1 0\nstep a: at r; set c 1; go s")
            rows = self.good(plan, [fact])
            self.assertEqual(all(row[1] is None for row in rows), seen, fact)
            self.stand_alike(plan, [fact], rows)

    def test_facts_of_another_family_see_nothing(self):
        plan = read_plan("family f 2 r s\nstep a: at r; go s\nfamily g 1 r s\nstep a: at r; go s")
        rows = self.good(plan, [("some", "g", "s", TRUE)])
        self.assertLess(len(rows), len(whole(plan)))
        self.stand_alike(plan, [("some", "g", "s", TRUE)], rows)

    def test_a_seen_step_beside_an_unseen_one(self):
        plan = read_plan("family f 1 r s t\nstep a: at r; go s\nstep b: at r; go t\nfamily g 1 r s\nstep x: at r; go s")
        facts = [("and", ("some", "f", "t", TRUE), ("some", "g", "r", TRUE))]
        self.stand_alike(plan, facts, self.good(plan, facts))

    def test_rounds_put_nothing_off_for_ever(self):
        plan = read_plan("family f 2 r s\nstep on: at r; go s\nstep back: at s; go r\nstep stay: at s; go s\n"
                         "family g 1 q p\nstep go: at q; send m 1 to all f; go p\nroad g f row 1")
        for facts in ([], [("letters", "g", "f", "", "=", 2)], [("some", "g", "p", TRUE)], [("some", "f", "s", TRUE)]):
            rows = self.good(plan, facts)
            self.assertTrue(any(row[0][0][2][0] == 1 for row in rows))
            if facts:
                self.stand_alike(plan, facts, rows)

    def test_a_step_that_changes_nothing_does_not_stand_for_all(self):
        plan = read_plan("family f 1 r\nstep x: at r; go r\nfamily g 1 q p\nstep y: at q; go p")
        rows = self.good(plan, [("some", "g", "p", TRUE)])
        self.assertEqual([row[0] for row in rows], comings(plan))

    def test_rounds_of_a_few_steps(self):
        plan = read_plan("family f 1 r s t u\nstep a: at r; go s\nstep b: at s; go t\nstep c: at t; go r\n"
                         "step d: at t; go u\nstep e: at u; go s\nfamily g 1 q p\nstep y: at q; go p")
        for facts in ([], [("some", "g", "p", TRUE)], [("some", "f", "u", TRUE)], [("some", "f", "t", TRUE)]):
            rows = self.good(plan, facts)
            if facts:
                self.stand_alike(plan, facts, rows)

    def test_dry_and_steps_that_are_not_possible(self):
        plan = read_plan("family f 1 r\nstep x: at r; when 1 = 2; go r\nfamily g 1 q\ncell c 0 0 0\n"
                         "step y: at q; set c 1; go q")
        self.assertEqual([row[:2] for row in self.good(plan, [])], [(begin(plan), None)])

    def test_losses_are_not_lost(self):
        plan = read_plan("family f 1 r s t\nstep x: at r; send m 1 to all g; go s\nstep y: at s; go t\n"
                         "family g 1 q\nroad f g row 2 loses doubles")
        facts = [("letters", "f", "g", "", "=", 2), ("letters", "f", "g", "", "=", 1)]
        self.stand_alike(plan, facts, self.good(plan, facts))

    def test_a_long_row_of_quiet_steps(self):
        plan = read_plan("""family f 1 r s
cell a 0 9 0
cell b 0 9 0
cell c 0 9 0
step a: at r; set a a + 1; go r
step b: at r; when a = 9; set a 0; set b b + 1; go r
step c: at r; when a = 9 and b = 9; set a 0; set b 0; set c c + 1; go r
step d: at r; when a = 9 and b = 9 and c = 9; go s""")
        rows = self.good(plan, [])
        self.assertEqual([row[0] for row in rows], comings(plan))
        self.assertEqual(len(rows), 1001)
        self.assertGreaterEqual(rows[0][2], max(0, sum(row[1] is not None for row in rows) - 1))

    def test_told_where_just_2000_come(self):
        facts = [("some", "f", "s", read_condition("a = 9")), ("all", "f", "", read_condition("b + c = 18"))]
        self.stand_alike(cells_plan(), facts, self.good(cells_plan(), facts))
        self.good(cells_plan(), [("many", "f", "", read_condition("a = b * c"), "=", 1)])

    def test_by_chance(self):
        fewer = 0
        for seed, plan, rows in chance_plans(4, 120, range(250)):
            chance = random.Random(seed)
            for many in (0, 1, 1, 2):
                facts = [chance_fact(chance, plan, 2, True) for _ in range(many)]
                found = self.good(plan, facts)
                self.assertLessEqual(len(found), len(rows))
                fewer += len(found) < len(rows)
                if facts:
                    self.stand_alike(plan, facts, found)
        self.assertGreater(fewer, 20)


class OwnTest(unittest.TestCase):
    def test_nothing_handed_in_is_changed(self):
        plan = read_plan(ThinnedTest.PLAN)
        facts = [("some", "f", "s", TRUE), ("not", ("letters", "f", "g", "m", "=", 0))]
        before = copy.deepcopy((plan, facts))
        whole(plan)
        folded(plan)
        thinned(plan, facts)
        is_plain(facts[1])
        is_quiet_hand(plan, begin(plan), 0)
        self.assertEqual((plan, facts), before)

    def test_refused_plans_are_as_they_were(self):
        plan = one_more_plan()
        before = copy.deepcopy(plan)
        for asked in (whole, folded, comings):
            self.assertRaises(TooMany, asked, plan)
        self.assertEqual(plan, before)

    def test_lists_that_are_told_are_the_askers_own(self):
        plan = read_plan(ThinnedTest.PLAN)
        for asked in (lambda: whole(plan), lambda: folded(plan), lambda: thinned(plan, [])):
            first = asked()
            kept = list(first)
            first.append("more")
            first[0] = None
            self.assertEqual(asked(), kept)


if __name__ == "__main__":
    unittest.main()
