import copy
import random
import sys
import unittest

from roadsall.answers import answer
from roadsall.errors import RoadError, TooMany
from roadsall.facts import comings, truths
from roadsall.goers import whole
from roadsall.plans import read_plan
from oracle import chance_fact, chance_plans
from papers import Look, faults_of
from samples import LOCK, RESEND, cells_plan, every, many, one_more_plan, ring_plan, small_plan, some, told

WAYS = ("all", "folded", "thinned")
TRUE = ("true",)
NOT_TRUE = ("not", TRUE)
KINDS = [("never", 1), ("always", 1), ("ahead", 2), ("at last", 1), ("whenever", 2), ("always can", 1)]
# A caller leaves, and the one who hears may hear of it or not.
CALL = """family caller 1 home away
step leave: at home; send left 0 to all hearer; go away
step wait: at away; go away
family hearer 2 deaf sure
step hear: at deaf; take left from caller; go sure
road caller hearer row 1 loses"""
AWAY = some("caller", "away")


def knows(fact):
    return ("some knows", "hearer", fact)


class WholeTest(unittest.TestCase):
    def told(self, plan, saying, word, inner):
        look = Look(plan, saying)
        for way in WAYS:
            found = answer(plan, saying, way)
            self.assertEqual(found[0], word, saying)
            self.assertEqual(faults_of(look, found, way), [], saying)
            name, rows, paper = found[1]
            self.assertEqual((name, paper[0]), ("whole", inner))
            self.assertEqual(sorted(row[0] for row in rows), sorted(comings(plan)))
        return paper

    def test_each_kind_and_paper(self):
        plan = read_plan(CALL)
        each = ("each knows", "hearer", AWAY)
        # Who is sure knows that the caller is away, and nobody else does.
        for saying, word, inner in [
            (("never", ("and", knows(AWAY), ("not", AWAY))), "yes", "all"),
            (("never", ("and", knows(AWAY), every("hearer", "deaf"))), "yes", "all"),
            (("never", each), "no", "run"),
            (("always", ("or", ("not", knows(AWAY)), some("hearer", "sure"))), "yes", "all"),
            (("always", knows(AWAY)), "no", "run"),
            (("ahead", AWAY, knows(AWAY)), "yes", "all"),
            (("ahead", each, knows(AWAY)), "no", "run"),
            (("at last", knows(NOT_TRUE)), "no", "round"),
            (("at last", ("or", AWAY, knows(AWAY))), "yes", "lots"),
            (("whenever", knows(AWAY), AWAY), "yes", "lots"),
            (("whenever", AWAY, knows(AWAY)), "no", "round"),
            (("always can", ("not", knows(NOT_TRUE))), "yes", "ways"),
            (("always can", knows(AWAY)), "no", "shut"),
        ]:
            self.told(plan, saying, word, inner)

    def test_ends(self):
        plan = read_plan(CALL.replace("step wait: at away; go away\n", ""))
        self.told(plan, ("at last", knows(AWAY)), "no", "end")
        self.told(plan, ("whenever", AWAY, knows(AWAY)), "no", "end")
        self.told(plan, ("at last", ("and", ("dry",), ("not", knows(NOT_TRUE)))), "yes", "lots")

    def test_knowing_deep_within(self):
        plan = read_plan(CALL)
        for fact in [("not", ("not", knows(AWAY))), ("or", AWAY, ("and", TRUE, knows(TRUE))), knows(knows(AWAY)),
                     ("each knows", "caller", ("not", knows(AWAY)))]:
            for saying in [("never", fact), ("ahead", TRUE, fact), ("ahead", fact, TRUE), ("at last", fact),
                           ("whenever", TRUE, fact), ("whenever", fact, TRUE), ("always can", fact)]:
                for way in WAYS:
                    found = answer(plan, saying, way)
                    self.assertEqual(found[1][0], "whole")
                    self.assertEqual(faults_of(Look(plan, saying), found, way), [])

    def test_no_knowing_no_whole_paper(self):
        plan = read_plan(CALL)
        for fact in [AWAY, ("dry",), TRUE, many("hearer", "sure", "<", 3), ("letters", "caller", "hearer", "", "<", 9)]:
            for kind, number in KINDS:
                for way in WAYS:
                    self.assertNotEqual(answer(plan, (kind,) + (fact,) * number, way)[1][0], "whole")

    def test_facts_are_looked_at_by_all_that_come(self):
        plan = read_plan(CALL)
        fact = knows(AWAY)
        run = self.told(plan, ("never", fact), "no", "run")
        look = Look(plan, ("never", fact))
        web = comings(plan)
        self.assertEqual(look.facts[0], dict(zip(web, truths(plan, fact, web))))
        self.assertEqual(len(run[1]), 2)

    def test_rows_are_the_whole_going(self):
        plan = read_plan(LOCK)
        rows = answer(plan, ("never", ("each knows", "f", some("f", "in"))), "all")[1][1]
        self.assertEqual(sorted(rows[1:], key=str), sorted(whole(plan)[1:], key=str))
        self.assertEqual(rows[0], whole(plan)[0])


class BoundTest(unittest.TestCase):
    # Facts that stand somewhere, nowhere and everywhere, one that is not plain, and one about knowing.
    FACTS = [some("f", "s", "a = 3"), NOT_TRUE, TRUE, ("dry",), ("some knows", "f", some("f", "s"))]

    def sayings(self, facts=FACTS):
        for kind, number in KINDS:
            for fact in facts:
                yield (kind,) + (fact,) * number
                if number == 2:
                    yield (kind, NOT_TRUE if kind == "ahead" else TRUE, fact)

    def test_just_2000_are_answered(self):
        for plan in (cells_plan(), ring_plan()):
            self.assertEqual(len(comings(plan)), 2000)
            words = set()
            for saying in self.sayings():
                for way in WAYS:
                    words.add((saying[0], answer(plan, saying, way)[0]))
            self.assertEqual(len(words), 12)

    def test_one_more_is_refused(self):
        plan = one_more_plan()
        before = answer(cells_plan(), ("never", some("f", "t")), "thinned")
        for saying in self.sayings():
            for way in WAYS:
                with self.assertRaises(TooMany) as caught:
                    answer(plan, saying, way)
                self.assertIsInstance(caught.exception, RoadError)
        self.assertEqual(answer(cells_plan(), ("never", some("f", "t")), "thinned"), before)

    def test_refused_whatever_the_way_makes_of_it(self):
        # The folded and the thinned going are far shorter than 2,000 rows here, and some sayings are settled at once.
        plan = read_plan("family f 5 r s t u v\n" + "\n".join(f"step {a}: at {a}; go {b}" for a, b in zip("rstu", "stuv")))
        for saying in [("never", some("f", "r")), ("never", NOT_TRUE), ("always", TRUE), ("ahead", TRUE, TRUE),
                       ("at last", TRUE), ("whenever", NOT_TRUE, TRUE), ("always can", TRUE)]:
            for way in WAYS:
                self.assertRaises(TooMany, answer, plan, saying, way)
        self.assertRaises(TooMany, answer, small_plan(), ("never", some("asker")), "all")

    def test_about_2000_standings_looked_at_by_the_words(self):
        plan = ring_plan("\nwish strong f ra\nwish weak f sd")
        for saying in [("never", NOT_TRUE), ("never", some("f", "s", "c = 9")), ("ahead", some("f", "s"), some("f", "s", "a = 1")),
                       ("at last", some("f", "s")), ("at last", NOT_TRUE), ("whenever", some("f", "s"), some("f", "r")),
                       ("always can", some("f", "r", "a = 0")), ("always can", ("dry",)),
                       ("whenever", TRUE, ("each knows", "f", some("f", "s")))]:
            look = Look(plan, saying)
            for way in WAYS:
                self.assertEqual(faults_of(look, answer(plan, saying, way), way), [])

    def test_no_deep_recursion(self):
        plan = ring_plan("\nwish strong f ra\nwish weak f sd")
        depth = 0
        frame = sys._getframe()
        while frame is not None:
            depth, frame = depth + 1, frame.f_back
        limit = sys.getrecursionlimit()
        try:
            sys.setrecursionlimit(depth + 100)
            for saying in self.sayings(self.FACTS[:2]):
                for way in WAYS:
                    answer(plan, saying, way)
        finally:
            sys.setrecursionlimit(limit)

    def test_strong_wishes_by_the_dozen(self):
        # Three hands, each in a line of seven numbers with a way out from six of them: eighteen lots within one another.
        lines = ["family f 3 in out", "cell c 0 6 0", "step up: at in; set c c + 1; go in", "step down: at in; set c c - 1; go in"]
        names = ["xa", "xb", "xc", "xd", "xe", "xf"]
        lines += [f"step {name}: at in; when c = {place}; set c 0; go out" for place, name in enumerate(names)]
        lines += [f"wish strong f {name}" for name in names]
        plan = read_plan("\n".join(lines))
        saying = ("at last", some("f", "out"))
        found = answer(plan, saying, "all")
        self.assertEqual(found[0], "yes")
        self.assertEqual(faults_of(Look(plan, saying), found), [])
        plan[2].pop()
        found = answer(plan, saying, "all")
        self.assertEqual((found[0], found[1][0]), ("no", "round"))
        self.assertEqual(faults_of(Look(plan, saying), found), [])


class OwnTest(unittest.TestCase):
    SAYINGS = [("never", many("f", "in", ">", 1)), ("never", some("f", "in")), ("ahead", some("g", "busy"), some("f", "in")),
               ("at last", some("f", "in")), ("at last", every("f", "in")), ("whenever", TRUE, some("f", "in")),
               ("always can", some("f", "in")), ("always can", every("f", "in")),
               ("always", ("some knows", "f", TRUE)), ("at last", ("each knows", "g", some("f", "in")))]

    def spoil(self, thing):
        """Empties each list within."""
        for part in thing if isinstance(thing, (list, tuple)) else ():
            self.spoil(part)
        if isinstance(thing, list):
            thing.clear()
            thing.append("spoilt")

    def test_nothing_handed_in_is_changed(self):
        plan = read_plan(LOCK + "\nwish strong g grant\nwish weak f enter")
        before = copy.deepcopy(plan)
        for saying in self.SAYINGS:
            for way in WAYS:
                kept = copy.deepcopy(saying)
                answer(plan, saying, way)
                self.assertEqual((plan, saying), (before, kept))

    def test_what_is_told_is_the_askers_own(self):
        plan = read_plan(LOCK + "\nwish strong g grant\nwish weak f enter")
        before = copy.deepcopy(plan)
        for saying in self.SAYINGS:
            for way in WAYS:
                first = answer(plan, saying, way)
                kept = copy.deepcopy(first)
                second = answer(plan, saying, way)
                self.assertEqual(second, kept)
                self.spoil(second)
                self.assertEqual(first, kept)
                self.assertEqual(answer(plan, saying, way), kept)
                self.assertEqual(plan, before)
                self.spoil(first)
                self.assertEqual(answer(plan, saying, way), kept)

    def test_a_plan_changed_later_changes_nothing_told(self):
        plan = read_plan(LOCK)
        found = answer(plan, ("at last", some("f", "in")), "all")
        kept = copy.deepcopy(found)
        self.spoil(plan)
        self.assertEqual(found, kept)

    def test_lists_and_tuples(self):
        plan = read_plan(RESEND + "\nwish strong g hear")
        word, paper = answer(plan, ("at last", some("g", "sure")), "all")
        self.assertEqual([isinstance(part, list) for part in paper], [False, True, True, True])
        lot = paper[3][0]
        self.assertEqual([isinstance(part, kind) for part, kind in zip(lot, (list, tuple, list))], [True] * 3)
        self.assertIsInstance(lot, tuple)

    def test_the_same_for_one_hand_alone(self):
        plan = read_plan("family f 1 r s\nstep a: at r; go s")
        self.assertEqual(answer(plan, ("never", some("f", "s")), "folded"), ("no", ("run", [told(0, "a")])))
        self.assertEqual(answer(plan, ("never", NOT_TRUE), "folded")[1][1], answer(plan, ("never", NOT_TRUE), "all")[1][1])


class ChanceTest(unittest.TestCase):
    def test_sayings_about_knowing_by_chance(self):
        kinds = {}
        for seed, plan, rows in chance_plans(3, 80, range(200, 330)):
            chance = random.Random(seed)
            for kind, number in KINDS:
                facts = tuple(chance_fact(chance, plan, 1) for _ in range(number))
                family = chance.choice(plan[0])[0]
                saying = (kind,) + facts[1:] + ((chance.choice(["some knows", "each knows"]), family, facts[0]),)
                found = answer(plan, saying, chance.choice(WAYS))
                self.assertEqual(faults_of(Look(plan, saying), found), [])
                self.assertEqual(found[1][0], "whole")
                kinds[(kind, found[1][2][0])] = True
        self.assertGreaterEqual(len(kinds), 13)

    def test_no_two_kinds_gainsay_each_other(self):
        for seed, plan, rows in chance_plans(3, 80, range(330, 420)):
            chance = random.Random(seed)
            fact = chance_fact(chance, plan, 2)
            words = {kind: answer(plan, (kind,) + (fact,) * number, "all")[0] for kind, number in KINDS}
            self.assertEqual((words["ahead"], words["whenever"]), ("yes", "yes"))
            self.assertEqual(words["never"], answer(plan, ("always", ("not", fact)), "thinned")[0])
            self.assertEqual(words["never"], answer(plan, ("ahead", NOT_TRUE, fact), "folded")[0])
            self.assertEqual(words["always can"], answer(plan, ("always can", ("or", fact, fact)), "all")[0])
            if words["always"] == "yes":
                self.assertEqual((words["at last"], words["always can"], words["never"]), ("yes", "yes", "no"))
            if words["at last"] == "yes":
                self.assertEqual(words["never"], "no")
            if answer(plan, ("whenever", TRUE, fact), "all")[0] == "yes":
                self.assertEqual((words["at last"], words["always can"]), ("yes", "yes"))


if __name__ == "__main__":
    unittest.main()
