import copy
import random
import unittest

from roadsall.plans import read_plan
from roadsall.renamings import least, renamed, renamed_deed, renamings
from roadsall.standings import begin, deeds, do, ends_from
from oracle import all_renamings, chance_plans, first_rows, least_of_all, moved
from samples import small_plan, told, with_hand, with_roads

TWO = """family f 3 r s
cell c 0 9 0
who w
who v
step go: at r; take m from f into c by w; send n c to any g; send n c to any f; go s
step tell: at s; send m 1 to who w; go r
family g 2 q
who u
step hear: at q; take n from f by u; go q
road f f heap 2 loses doubles
road f g row 2 loses doubles
road g f heap 1
road g g row 1"""

WHO = """family f 3 r s
who w
step ask: at r; send m 0 to any f; go s
step hear: at s; take m from f by w; go r
road f f heap 1"""


class RenamingsTest(unittest.TestCase):
    def test_within_families_ascending(self):
        self.assertEqual(renamings(read_plan(TWO)), [
            (0, 1, 2, 3, 4), (0, 1, 2, 4, 3), (0, 2, 1, 3, 4), (0, 2, 1, 4, 3), (1, 0, 2, 3, 4), (1, 0, 2, 4, 3),
            (1, 2, 0, 3, 4), (1, 2, 0, 4, 3), (2, 0, 1, 3, 4), (2, 0, 1, 4, 3), (2, 1, 0, 3, 4), (2, 1, 0, 4, 3),
        ])

    def test_one_hand_each(self):
        self.assertEqual(renamings(read_plan("family f 1 r")), [(0,)])
        self.assertEqual(renamings(read_plan("family f 1 r\nfamily g 1 r\nfamily h 1 r")), [(0, 1, 2)])

    def test_behind_a_lone_hand(self):
        self.assertEqual(renamings(read_plan("family f 1 r\nfamily g 2 r")), [(0, 1, 2), (0, 2, 1)])

    def test_numbers(self):
        for many, number in [(2, 2), (3, 6), (4, 24), (5, 120)]:
            plan = read_plan(f"family f {many} r")
            found = renamings(plan)
            self.assertEqual(len(found), number)
            self.assertEqual(found, sorted(set(found)))
            self.assertEqual(found, all_renamings(plan))


class RenamedTest(unittest.TestCase):
    def setUp(self):
        self.plan = read_plan(TWO)
        start = begin(self.plan)
        self.standing = with_roads(self.plan, (
            ((0, (1,), (-1, 2)), (1, (2,), (3, 0)), (1, (3,), (1, 4)), (0, (), (-1,)), (0, (), (0,))), start[1]),
            {(0, 1): (("m", 1), ("m", 5)), (1, 2): (("n", 2),), (0, 3): (("x", 9), ("b", 3)), (2, 4): (("x", 4),),
             (3, 1): (("y", 5),), (4, 3): (("y", 6),)})

    def test_hands_cells_whos_rooms_and_letters(self):
        # Hand 0 becomes 2, 1 becomes 0, 2 becomes 1, and 3 and 4 change.
        hands = ((1, (2,), (4, 2)), (1, (3,), (0, 3)), (0, (1,), (-1, 1)), (0, (), (2,)), (0, (), (-1,)))
        expected = with_roads(self.plan, (hands, begin(self.plan)[1]), {
            (2, 0): (("m", 1), ("m", 5)), (0, 1): (("n", 2),), (2, 4): (("x", 9), ("b", 3)), (1, 3): (("x", 4),),
            (4, 0): (("y", 5),), (3, 4): (("y", 6),)})
        self.assertEqual(renamed(self.plan, self.standing, (2, 0, 1, 4, 3)), expected)

    def test_as_it_is(self):
        self.assertEqual(renamed(self.plan, self.standing, (0, 1, 2, 3, 4)), self.standing)

    def test_nobody_stays_nobody(self):
        start = begin(self.plan)
        for renaming in renamings(self.plan):
            self.assertEqual(renamed(self.plan, start, renaming), start)

    def test_one_behind_the_other(self):
        for one in renamings(self.plan):
            for other in renamings(self.plan):
                both = tuple(other[hand] for hand in one)
                self.assertEqual(renamed(self.plan, renamed(self.plan, self.standing, one), other),
                                 renamed(self.plan, self.standing, both))

    def test_the_slow_way(self):
        for renaming in renamings(self.plan):
            self.assertEqual(renamed(self.plan, self.standing, renaming), moved(self.plan, self.standing, renaming))


class DeedTest(unittest.TestCase):
    RENAMING = (2, 0, 1, 4, 3)

    def test_each_kind(self):
        for deed, other in [
            (told(0, "go"), told(2, "go")),
            (told(1, "go", (0, 1)), told(0, "go", (2, 1))),
            (told(1, "go", (4, 2), (2, 3)), told(0, "go", (3, 2), (1, 4))),
            (told(4, "hear", None, (0, 0, 1)), told(3, "hear", None, (2, 2, 0))),
            (("lose", 0, 1, 1), ("lose", 2, 0, 1)),
            (("lose", 4, 3, 0), ("lose", 3, 4, 0)),
            (("double", 2, 4, 2), ("double", 1, 3, 2)),
        ]:
            self.assertEqual(renamed_deed(deed, self.RENAMING), other)
            self.assertEqual(renamed_deed(deed, (0, 1, 2, 3, 4)), deed)

    def follow(self, plan, standing):
        kinds = set()
        for renaming in renamings(plan):
            there = renamed(plan, standing, renaming)
            for deed, end in ends_from(plan, standing):
                other = renamed_deed(deed, renaming)
                self.assertIn(other, deeds(plan, there))
                self.assertEqual(do(plan, there, other), renamed(plan, end, renaming))
                kinds.add(deed[0])
            self.assertEqual(len(deeds(plan, there)), len(deeds(plan, standing)))
        return kinds

    def test_what_is_possible_stays_so(self):
        plan = read_plan(TWO)
        hands = ((0, (1,), (-1, -1)), (1, (0,), (0, 2)), (0, (0,), (1, 3)), (0, (), (-1,)), (0, (), (1,)))
        standing = with_roads(plan, (hands, begin(plan)[1]), {
            (1, 0): (("m", 1), ("m", 5)), (1, 2): (("m", 2), ("n", 2)), (0, 3): (("n", 9),), (2, 4): (("n", 4), ("b", 1))})
        self.assertEqual(self.follow(plan, standing), {"step", "lose", "double"})

    def test_what_is_possible_stays_so_by_chance(self):
        kinds = set()
        for seed, plan, rows in chance_plans(5, 60, range(80)):
            for standing, ahead, deed in rows:
                kinds |= self.follow(plan, standing)
        self.assertEqual(kinds, {"step", "lose", "double"})


class LeastTest(unittest.TestCase):
    def test_the_beginning(self):
        for plan in (read_plan(TWO), small_plan(), read_plan("family f 1 r")):
            start = begin(plan)
            self.assertEqual(least(plan, start), (start, renamings(plan)[0]))

    def test_rooms_come_first(self):
        plan = read_plan("family f 3 r s\ncell c 0 9 0")
        standing = (((1, (0,), ()), (0, (5,), ()), (0, (2,), ())), ())
        self.assertEqual(least(plan, standing), ((((0, (2,), ()), (0, (5,), ()), (1, (0,), ())), ()), (2, 1, 0)))

    def test_the_first_renaming_of_several(self):
        plan = read_plan("family f 3 r s")
        home, away = (0, (), ()), (1, (), ())
        self.assertEqual(least(plan, ((away, home, home), ())), (((home, home, away), ()), (2, 0, 1)))
        self.assertEqual(least(plan, ((home, away, home), ())), (((home, home, away), ()), (0, 2, 1)))
        self.assertEqual(least(plan, ((away, home, away), ())), (((home, away, away), ()), (1, 0, 2)))

    def test_whos_count_ahead_of_later_rooms(self):
        plan = read_plan("family f 3 r s t\nwho w\nroad f f row 1")
        # Hand 0 speaks of hand 2; the least has that who at 1, though hand 1 stands in a room ahead of hand 2's.
        standing = (((0, (), (2,)), (1, (), (-1,)), (2, (), (-1,))), ((),) * 6)
        expected = (((0, (), (1,)), (2, (), (-1,)), (1, (), (-1,))), ((),) * 6)
        self.assertEqual(least(plan, standing), (expected, (0, 2, 1)))

    def test_letters_count_last(self):
        plan = read_plan("family f 2 r\nroad f f row 2")
        one, two = (("a", 1),), (("a", 1), ("a", 0))
        hands = begin(plan)[0]
        for letters, lowest, renaming in [((one, ()), ((), one), (1, 0)), (((), one), ((), one), (0, 1)),
                                          ((two, one), (one, two), (1, 0)), ((one, one), (one, one), (0, 1)),
                                          (((("b", 0),), two), (two, (("b", 0),)), (1, 0)),
                                          (((("a", -1),), one), ((("a", -1),), one), (0, 1))]:
            self.assertEqual(least(plan, (hands, letters)), ((hands, lowest), renaming))

    def test_families_apart(self):
        plan = read_plan("family f 2 r s\nfamily g 2 r s\nroad f g row 1")
        home, away = (0, (), ()), (1, (), ())
        standing = with_roads(plan, ((away, home, away, home), begin(plan)[1]), {(0, 2): (("m", 1),)})
        expected = with_roads(plan, ((home, away, home, away), begin(plan)[1]), {(1, 3): (("m", 1),)})
        self.assertEqual(least(plan, standing), (expected, (1, 0, 3, 2)))

    def same_for_all_renamings(self, plan, standing):
        lowest, renaming = least(plan, standing)
        self.assertEqual((lowest, renaming), least_of_all(plan, standing))
        self.assertEqual(renamed(plan, standing, renaming), lowest)
        self.assertEqual(least(plan, lowest), (lowest, renamings(plan)[0]))
        for other in renamings(plan):
            there = renamed(plan, standing, other)
            self.assertEqual(least(plan, there)[0], lowest)
            self.assertLessEqual(lowest, there)
            if other < renaming:
                self.assertNotEqual(there, lowest)

    def test_one_for_all_renamings(self):
        plan = read_plan(WHO)
        for standing, ahead, deed in random.Random(5).sample(first_rows(plan, 5000), 60):
            self.same_for_all_renamings(plan, standing)

    def test_one_for_all_renamings_of_any_standings(self):
        plan = read_plan(TWO)
        chance = random.Random(7)
        for _ in range(40):
            hands = [(chance.randint(0, 1), (chance.randint(0, 1),), (chance.randint(-1, 4), chance.randint(-1, 4)))
                     for _ in range(3)]
            hands += [(0, (), (chance.randint(-1, 2),)) for _ in range(2)]
            roads = [tuple(sorted(chance.choices([("m", 0), ("n", 1)], k=chance.choice([0, 0, 1]))))
                     for _ in begin(plan)[1]]
            self.same_for_all_renamings(plan, (tuple(hands), tuple(roads)))

    def test_one_for_all_renamings_by_chance(self):
        many = 0
        for seed, plan, rows in chance_plans(5, 60, range(80)):
            if len(renamings(plan)) > 1:
                many += 1
                for standing, ahead, deed in rows:
                    self.same_for_all_renamings(plan, standing)
        self.assertGreater(many, 10)


class OwnTest(unittest.TestCase):
    def test_nothing_handed_in_is_changed(self):
        plan = read_plan(TWO)
        standing = with_hand(begin(plan), 1, (1, (4,), (0, 2)))
        deed = told(1, "go", (0, 1), (2, 3))
        before = copy.deepcopy((plan, standing, deed))
        for renaming in renamings(plan):
            renamed(plan, standing, renaming)
            renamed_deed(deed, renaming)
        least(plan, standing)
        self.assertEqual((plan, standing, deed), before)

    def test_lists_that_are_told_are_the_askers_own(self):
        plan = read_plan(TWO)
        first = renamings(plan)
        kept = list(first)
        first.reverse()
        first.pop()
        self.assertEqual(renamings(plan), kept)
        self.assertEqual(least(plan, begin(plan)), (begin(plan), (0, 1, 2, 3, 4)))


if __name__ == "__main__":
    unittest.main()
