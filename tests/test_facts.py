import copy
import random
import unittest

from roadsall.errors import RoadError, TooMany
from roadsall.facts import comings, holds_at, truths
from roadsall.plans import read_plan
from roadsall.standings import begin, do
from roadsall.words import read_condition
from oracle import chance_fact, chance_plans, stands
from samples import cells_plan, one_more_plan, small_plan, told, with_hand, with_roads

TRUE = ("true",)
WORDS = {"=": (False, True, False), "!=": (True, False, True), "<": (True, False, False), "<=": (True, True, False),
         ">": (False, False, True), ">=": (False, True, True)}


def when(text):
    return read_condition(text)


class PartTest(unittest.TestCase):
    PLAN = """family f 3 r s
cell c 0 9 0
cell d -9 0 0
family g 1 q p
who w
road f g row 3
road g f heap 2 loses
road f f heap 3"""

    def setUp(self):
        self.plan = read_plan(self.PLAN)
        # Of f: r with c 1 and d 0, s with 1 and -1, s with 2 and -2.
        self.standing = with_roads(self.plan, (
            ((0, (1, 0), ()), (1, (1, -1), ()), (1, (2, -2), ()), (1, (), (2,))), begin(self.plan)[1]),
            {(0, 3): (("m", 1), ("n", 1)), (1, 3): (("m", 2), ("m", 2)), (3, 2): (("m", 0),), (0, 1): (("m", 0), ("x", 5)),
             (2, 0): (("x", 5), ("x", 5), ("x", 6))})

    def told(self, fact):
        truth = holds_at(self.plan, fact, self.standing)
        self.assertEqual(truths(self.plan, fact, [self.standing]), [truth])
        self.assertTrue(truth is True or truth is False)
        return truth

    def each(self, rows):
        for fact, truth in rows:
            self.assertEqual(self.told(fact), truth, fact)
            self.assertEqual(self.told(("not", fact)), not truth, fact)

    def test_some(self):
        self.each([
            (("some", "f", "r", TRUE), True), (("some", "f", "", TRUE), True), (("some", "g", "p", TRUE), True),
            (("some", "g", "q", TRUE), False), (("some", "f", "s", when("c = 2")), True),
            (("some", "f", "r", when("c = 2")), False), (("some", "f", "", when("c = 2")), True),
            (("some", "f", "", when("c = 3")), False), (("some", "f", "", when("c + d = 0 and d < 0")), True),
            (("some", "f", "", when("d + 2 < 0")), False), (("some", "g", "", when("1 = 1")), True),
            (("some", "g", "", when("1 = 2")), False),
        ])

    def test_all(self):
        self.each([
            (("all", "f", "", TRUE), True), (("all", "f", "r", TRUE), False), (("all", "f", "s", TRUE), False),
            (("all", "g", "p", TRUE), True), (("all", "g", "q", TRUE), False), (("all", "f", "", when("c > 0")), True),
            (("all", "f", "", when("c > 1")), False), (("all", "f", "", when("c = 1 or d + 2 = 0")), True),
            (("all", "f", "s", when("c > 0")), False), (("all", "g", "", when("not true")), False),
        ])

    def test_many_with_each_word(self):
        # Two hands of f stand in s; the number that is told is one more, the same, one less.
        for word, truth in WORDS.items():
            self.each([(("many", "f", "s", TRUE, word, 3), truth[0]), (("many", "f", "s", TRUE, word, 2), truth[1]),
                       (("many", "f", "s", TRUE, word, 1), truth[2])])

    def test_many(self):
        self.each([
            (("many", "f", "", TRUE, "=", 3), True), (("many", "f", "", when("c = 1"), "=", 2), True),
            (("many", "f", "s", when("c = 1"), "=", 1), True), (("many", "f", "r", when("c = 2"), "=", 0), True),
            (("many", "g", "", TRUE, "=", 1), True), (("many", "g", "q", TRUE, ">=", 0), True),
            (("many", "f", "", TRUE, ">", -5), True), (("many", "f", "", TRUE, "<", 999), True),
        ])

    def test_letters_with_each_word(self):
        # Three letters of the mark m are on the roads from f to g.
        for word, truth in WORDS.items():
            self.each([(("letters", "f", "g", "m", word, 4), truth[0]), (("letters", "f", "g", "m", word, 3), truth[1]),
                       (("letters", "f", "g", "m", word, 2), truth[2])])

    def test_letters_over_all_roads_of_two_families(self):
        for fact, number in [(("f", "g", "n"), 1), (("f", "g", ""), 4), (("f", "g", "x"), 0), (("g", "f", "m"), 1),
                             (("g", "f", ""), 1), (("f", "f", "m"), 1), (("f", "f", "x"), 4), (("f", "f", ""), 5),
                             (("g", "g", ""), 0), (("f", "g", "never"), 0)]:
            self.each([(("letters",) + fact + ("=", number), True), (("letters",) + fact + ("=", number + 1), False)])

    def test_true_not_and_or(self):
        yes, no = ("some", "f", "r", TRUE), ("all", "f", "r", TRUE)
        self.each([(TRUE, True), (("not", TRUE), False), (("not", ("not", yes)), True)])
        for one, other in [(yes, yes), (yes, no), (no, yes), (no, no)]:
            self.each([(("and", one, other), one == yes and other == yes), (("or", one, other), one == yes or other == yes)])
        self.each([(("or", ("and", no, no), yes), True), (("and", ("or", yes, yes), no), False)])

    def test_dry(self):
        self.each([(("dry",), False)])
        self.standing = begin(self.plan)
        self.each([(("dry",), True)])

    def test_dry_by_each_kind_of_deed(self):
        for text, letters, dry in [
            ("family f 1 r s\nstep x: at r; go r", {}, False), ("family f 1 r s\nstep x: at s; go r", {}, True),
            ("family f 1 r\nfamily g 1 r\nstep x: at r; go r", {}, False),
            ("family f 2 r\nroad f f row 1 loses", {}, True),
            ("family f 2 r\nroad f f row 1 loses", {(1, 0): (("m", 1),)}, False),
            ("family f 2 r\nroad f f row 1 doubles", {(1, 0): (("m", 1),)}, True),
            ("family f 2 r\nroad f f row 2 doubles", {(1, 0): (("m", 1),)}, False),
            ("family f 2 r\nroad f f row 1", {(1, 0): (("m", 1),)}, True),
        ]:
            plan = read_plan(text)
            self.assertIs(holds_at(plan, ("dry",), with_roads(plan, begin(plan), letters)), dry, text)

    def test_any_list_of_standings(self):
        other = begin(self.plan)
        fact = ("some", "f", "s", TRUE)
        self.assertEqual(truths(self.plan, fact, [other, self.standing, other, other]), [False, True, False, False])
        self.assertEqual(truths(self.plan, fact, []), [])
        self.assertEqual(truths(self.plan, ("true",), [other] * 3), [True] * 3)
        self.assertEqual(truths(self.plan, ("or", ("dry",), fact), [self.standing, other]), [True, True])
        self.assertEqual(truths(self.plan, ("dry",), [self.standing, other]), [False, True])


class KnowingTest(unittest.TestCase):
    # A hand of f tells its going to g; g hears it, and only then knows where it is.
    TELL = """family f 1 r s
step go: at r; send m 1 to all g; go s
family g 2 q p
cell h 0 1 0
who w
step hear: at q; take m from f into h by w; go p
road f g row 1"""

    GONE = ("some", "f", "s", TRUE)

    def rows(self, text, facts):
        plan = read_plan(text)
        web = comings(plan)
        told_truths = [truths(plan, fact, web) for fact in facts]
        for fact, row in zip(facts, told_truths):
            self.assertEqual(row, [stands(plan, fact, standing, web) for standing in web])
            self.assertTrue(all(truth is True or truth is False for truth in row))
        return dict(zip(web, zip(*told_truths)))

    def test_who_knows(self):
        plan = read_plan(self.TELL)
        found = self.rows(self.TELL, [("some knows", "g", self.GONE), ("each knows", "g", self.GONE),
                                      ("some knows", "f", self.GONE), ("each knows", "g", ("true",)),
                                      ("some knows", "g", ("not", self.GONE)), ("some knows", "f", ("not", self.GONE))])
        start = begin(plan)
        gone = do(plan, start, told(0, "go"))
        heard = do(plan, gone, told(2, "hear", (0, 0)))
        both = do(plan, heard, told(1, "hear", (0, 0)))
        self.assertEqual(found[start], (False, False, False, True, False, True))
        self.assertEqual(found[gone], (False, False, True, True, False, False))
        self.assertEqual(found[heard], (True, False, True, True, False, False))
        self.assertEqual(found[both], (True, True, True, True, False, False))

    def test_knowing_within_knowing(self):
        each = ("each knows", "g", self.GONE)
        found = self.rows(self.TELL, [("some knows", "f", ("some knows", "g", self.GONE)), ("some knows", "g", each),
                                      ("some knows", "g", ("some knows", "f", self.GONE)), each,
                                      ("each knows", "g", ("not", ("some knows", "f", self.GONE)))])
        plan = read_plan(self.TELL)
        gone = do(plan, begin(plan), told(0, "go"))
        heard = do(plan, gone, told(1, "hear", (0, 0)))
        both = do(plan, heard, told(2, "hear", (0, 0)))
        self.assertEqual(found[gone], (False, False, False, False, False))
        self.assertEqual(found[heard], (False, False, True, False, False))
        self.assertEqual(found[both], (False, False, True, True, False))

    def test_what_a_hand_knows_hangs_on_its_own_alone(self):
        # The other hand has just the same; room, cell and who each tell the going apart by themselves.
        for tail, truth in [("go q", False), ("go p", True), ("set h 1; go q", True)]:
            text = f"""family f 1 r s
step go: at r; send m 1 to all g; go s
family g 1 q p
cell h 0 1 0
step hear: at q; when h = 0; take m from f; {tail}
road f g row 1"""
            found = self.rows(text, [("some knows", "g", self.GONE)])
            self.assertEqual([row[0] for row in found.values()], [False, False, truth], tail)
        by_who = self.rows(self.TELL.replace("into h by w; go p", "by w; go q"), [("each knows", "g", self.GONE)])
        self.assertEqual([row[0] for row in by_who.values()].count(True), 1)
        by_none = self.rows(self.TELL.replace(" into h by w; go p", "; go q"), [("some knows", "g", self.GONE)])
        self.assertEqual([row[0] for row in by_none.values()], [False] * 5)

    def test_letters_on_roads_are_not_a_hands_own(self):
        found = self.rows(self.TELL, [("some knows", "g", ("letters", "f", "g", "", ">", 0)),
                                      ("each knows", "f", ("letters", "f", "g", "", "<=", 2))])
        self.assertEqual(list(found.values()), [(False, True)] * 5)

    def test_some_and_each_of_unlike_hands(self):
        text = "family f 2 r s\nstep go: at r; go s"
        here = ("some", "f", "s", TRUE)
        found = self.rows(text, [("some knows", "f", here), ("each knows", "f", here)])
        self.assertEqual(list(found.values()), [(False, False), (True, False), (True, False), (True, True)])

    def test_knowing_by_chance(self):
        many = 0
        for seed, plan, rows in chance_plans(5, 40, range(300)):
            web = comings(plan)
            chance = random.Random(seed)
            for _ in range(4):
                fact = chance_fact(chance, plan, 3)
                row = truths(plan, fact, web)
                self.assertEqual(row, [stands(plan, fact, standing, web) for standing in web], (seed, fact))
                many += True in row and False in row
        self.assertGreater(many, 30)


class ComingsTest(unittest.TestCase):
    def test_the_order(self):
        # Steps by hands, then losses; what came first goes on first.
        plan = read_plan("""family f 2 r s t
step a: at r; go t
step b: at r; send m 1 to all f; go s
step c: at t; go s
road f f row 1 loses""")
        letter = (("m", 1),)
        found = comings(plan)
        self.assertEqual(found[:6], [
            (((0, (), ()), (0, (), ())), ((), ())), (((2, (), ()), (0, (), ())), ((), ())),
            (((1, (), ()), (0, (), ())), (letter, ())), (((0, (), ()), (2, (), ())), ((), ())),
            (((0, (), ()), (1, (), ())), ((), letter)), (((1, (), ()), (0, (), ())), ((), ()))])
        self.assertEqual(len(found), len(set(found)))
        # Each hand by itself: in r, in t, in s with its letter on the road, in s without.
        self.assertEqual(len(found), 4 * 4)

    def test_one_standing(self):
        for text in ("family f 1 r", "family f 2 r\nstep x: at r; go r"):
            plan = read_plan(text)
            self.assertEqual(comings(plan), [begin(plan)])

    def test_by_chance(self):
        for seed, plan, rows in chance_plans(1, 60, range(100)):
            self.assertEqual(comings(plan), [row[0] for row in rows], seed)

    def test_just_2000_and_one_more(self):
        found = comings(cells_plan())
        self.assertEqual(len(set(found)), 2000)
        self.assertEqual(len(found), 2000)
        self.assertRaises(TooMany, comings, one_more_plan())
        self.assertTrue(issubclass(TooMany, RoadError))
        self.assertEqual(comings(cells_plan()), found)

    def test_far_too_many(self):
        plan = read_plan("family f 5 r s t u v\n" + "\n".join(f"step {name}: at {at}; go {go}" for name, at, go in [
            ("a", "r", "s"), ("b", "s", "t"), ("c", "t", "u"), ("d", "u", "v")]))
        self.assertRaises(TooMany, comings, plan)


class OwnTest(unittest.TestCase):
    FACTS = [("dry",), ("true",), ("not", ("dry",)), ("some knows", "g", KnowingTest.GONE),
             ("letters", "f", "g", "m", ">", 0)]

    def test_nothing_handed_in_is_changed(self):
        plan = read_plan(KnowingTest.TELL)
        web = comings(plan)
        before = copy.deepcopy((plan, web, self.FACTS))
        for fact in self.FACTS:
            truths(plan, fact, web)
        holds_at(plan, KnowingTest.GONE, web[0])
        self.assertEqual((plan, web, self.FACTS), before)

    def test_lists_that_are_told_are_the_askers_own(self):
        plan = read_plan(KnowingTest.TELL)
        asks = [lambda: comings(plan)]
        asks += [lambda fact=fact: truths(plan, fact, comings(plan)) for fact in self.FACTS]
        for asked in asks:
            first = asked()
            kept = list(first)
            first.append("more")
            first[0] = "other"
            self.assertEqual(asked(), kept)

    def test_a_list_told_is_no_longer_looked_at(self):
        plan = small_plan()
        web = [begin(plan)]
        told_truths = truths(plan, ("dry",), web)
        web.append(with_hand(begin(plan), 0, (1, (3, 0), ())))
        self.assertEqual(told_truths, [False])


if __name__ == "__main__":
    unittest.main()
