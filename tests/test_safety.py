import random
import unittest

from roadsall.answers import answer
from roadsall.facts import comings
from roadsall.goers import folded
from roadsall.plans import read_plan
from roadsall.runs import walked
from roadsall.standings import begin
from oracle import chance_fact, chance_plans
from papers import Look, faults_of
from samples import LOCK, RESEND, every, many, some, told

WAYS = ("all", "folded", "thinned")
NOT_TRUE = ("not", ("true",))


class SafetyCase(unittest.TestCase):
    def told_alike(self, plan, saying, word):
        """The answer by each way, which are looked at against the document's words."""
        look = Look(plan, saying)
        found = {way: answer(plan, saying, way) for way in WAYS}
        for way in WAYS:
            self.assertEqual(found[way][0], word, (saying, way))
            self.assertEqual(faults_of(look, found[way], way), [], (saying, way))
        return {way: found[way][1] for way in WAYS}


class NeverAndAlwaysTest(SafetyCase):
    def test_yes(self):
        plan = read_plan(LOCK)
        for fact in [many("f", "in", ">", 1), ("and", some("f", "in"), some("g", "idle")), NOT_TRUE,
                     ("letters", "g", "f", "", ">", 1), ("letters", "f", "g", "free", "=", 2)]:
            self.told_alike(plan, ("never", fact), "yes")
            self.told_alike(plan, ("always", ("not", fact)), "yes")

    def test_no(self):
        plan = read_plan(LOCK)
        for fact in [some("f", "in"), ("and", some("f", "in"), some("f", "wait")), every("f", "wait"),
                     ("letters", "f", "g", "", "=", 2), ("and", ("letters", "f", "g", "ask", ">", 0), some("f", "in"))]:
            papers = self.told_alike(plan, ("never", fact), "no")
            self.assertEqual({way: paper[0] for way, paper in papers.items()}, dict.fromkeys(WAYS, "run"))
            self.told_alike(plan, ("always", ("not", fact)), "no")

    def test_the_run_that_is_the_only_one(self):
        plan = read_plan("family f 1 r s t\nstep a: at r; go s\nstep b: at s; go t\nstep c: at t; go r")
        for saying in [("never", some("f", "t")), ("always", ("not", some("f", "t")))]:
            for paper in self.told_alike(plan, saying, "no").values():
                self.assertEqual(paper, ("run", [told(0, "a"), told(0, "b")]))

    def test_bad_at_the_beginning(self):
        for plan in [read_plan(LOCK), read_plan(RESEND), read_plan("family f 1 r")]:
            for saying in [("never", ("true",)), ("always", NOT_TRUE), ("never", some(plan[0][0][0])),
                           ("ahead", NOT_TRUE, ("true",))]:
                for way in WAYS:
                    self.assertEqual(answer(plan, saying, way), ("no", ("run", [])))

    def test_one_standing(self):
        plan = read_plan("family f 2 r")
        papers = self.told_alike(plan, ("always", ("true",)), "yes")
        self.assertEqual(papers, {"all": ("all", [begin(plan)]), "folded": ("folded", [begin(plan)]),
                                  "thinned": ("thinned", [(begin(plan), None, 0)])})

    def test_all_that_come_and_all_least_ones(self):
        for plan in [read_plan(LOCK), read_plan("family f 3 r s t\nstep a: at r; go s\nstep b: at s; go t")]:
            for saying in [("never", NOT_TRUE), ("always", ("true",))]:
                papers = self.told_alike(plan, saying, "yes")
                self.assertEqual(sorted(papers["all"][1]), sorted(comings(plan)))
                self.assertEqual(sorted(papers["folded"][1]), sorted(folded(plan)))
                self.assertLess(len(papers["folded"][1]), len(papers["all"][1]))

    def test_thinned_rows(self):
        plan = read_plan("family f 2 r s\nstep a: at r; go s")
        papers = self.told_alike(plan, ("never", NOT_TRUE), "yes")
        self.assertEqual([len(papers[way][1]) for way in WAYS], [4, 3, 3])
        # Each step is seen here, so no row has a hand.
        papers = self.told_alike(plan, ("never", many("f", "s", ">", 2)), "yes")
        self.assertEqual([row[1] for row in papers["thinned"][1]], [None] * 4)

    def test_thinned_is_asked_of_the_sayings_own_facts(self):
        plan = read_plan("family f 1 r s\nstep a: at r; go s\nfamily g 1 r s\nstep a: at r; go s")
        for fact, hands in [(some("f", "s", "1 = 2"), {0, 1, None}), (many("f", "s", ">", 1), {1, None}),
                            (many("g", "s", ">", 1), {0, None})]:
            rows = self.told_alike(plan, ("never", fact), "yes")["thinned"][1]
            self.assertEqual({row[1] for row in rows}, hands)

    def test_not_plain_is_by_all(self):
        plan = read_plan(LOCK)
        dries = [("never", ("dry",)), ("always", ("not", ("dry",))), ("ahead", ("dry",), ("dry",)),
                 ("ahead", some("f", "in"), ("and", ("dry",), some("f"))), ("never", ("not", ("not", ("dry",))))]
        for saying in dries:
            for paper in self.told_alike(plan, saying, "yes").values():
                self.assertEqual(paper[0], "all")
        plan = read_plan("family f 2 r s\nstep a: at r; go s")
        for paper in self.told_alike(plan, ("never", ("dry",)), "no").values():
            self.assertEqual(walked(plan, paper[1])[-1][0], ((1, (), ()), (1, (), ())))


class AheadTest(SafetyCase):
    def test_yes(self):
        plan = read_plan(LOCK)
        for one, other in [(some("g", "busy"), some("f", "in")), (some("f", "wait"), some("g", "busy")),
                           (("letters", "f", "g", "ask", ">", 0), ("letters", "g", "f", "", ">", 0)),
                           (some("f", "in"), ("letters", "f", "g", "free", "=", 1))]:
            papers = self.told_alike(plan, ("ahead", one, other), "yes")
            self.assertEqual([papers[way][0] for way in WAYS], list(WAYS))

    def test_no(self):
        plan = read_plan(LOCK)
        for one, other in [(some("f", "in"), some("g", "busy")), (every("f", "wait"), some("f", "in")),
                           (("letters", "f", "g", "free", ">", 0), many("f", "in", "=", 1))]:
            for paper in self.told_alike(plan, ("ahead", one, other), "no").values():
                self.assertEqual(paper[0], "run")

    def test_both_at_the_same_standing(self):
        plan = read_plan("family f 1 r s t\nstep a: at r; go s\nstep b: at s; go t")
        for fact in (some("f", "r"), some("f", "s"), some("f", "t"), ("true",), NOT_TRUE):
            self.told_alike(plan, ("ahead", fact, fact), "yes")

    def test_what_comes_behind_a_final_one_is_not_looked_at(self):
        plan = read_plan("family f 1 r s t\nstep a: at r; go s\nstep b: at s; go t")
        papers = self.told_alike(plan, ("ahead", some("f", "s"), some("f", "t")), "yes")
        self.assertEqual([len(papers[way][1]) for way in WAYS], [2, 2, 2])
        papers = self.told_alike(plan, ("ahead", ("true",), some("f", "t")), "yes")
        self.assertEqual([len(papers[way][1]) for way in WAYS], [1, 1, 1])

    def test_a_run_past_a_final_one_is_none(self):
        # By s it's short, but final; by p and q it's long.
        plan = read_plan("""family f 1 r s t p q
step a: at r; go s
step b: at s; go t
step c: at r; go p
step d: at p; go q
step e: at q; go t""")
        for paper in self.told_alike(plan, ("ahead", some("f", "s"), some("f", "t")), "no").values():
            self.assertEqual(paper, ("run", [told(0, "c"), told(0, "d"), told(0, "e")]))

    def test_a_final_one_has_no_hand(self):
        plan = read_plan("family f 1 r s\nstep a: at r; go s\nfamily g 1 p q\nstep b: at p; go q")
        for saying in [("ahead", some("f", "r"), some("f", "s")), ("ahead", ("true",), NOT_TRUE)]:
            rows = self.told_alike(plan, saying, "yes")["thinned"][1]
            self.assertEqual([row[:2] for row in rows], [(begin(plan), None)])

    def test_both_facts_see_steps(self):
        plan = read_plan("family f 1 r s\nstep a: at r; go s\nfamily g 1 r s\nstep a: at r; go s")
        # Were one of the facts not looked at, its family's hand would be let go first, and what is asked not be seen.
        self.told_alike(plan, ("ahead", some("f", "s"), some("g", "s")), "no")
        self.told_alike(plan, ("ahead", some("g", "s"), some("f", "s")), "no")
        self.told_alike(plan, ("ahead", ("or", some("g", "s"), some("f", "s")), some("f", "s")), "yes")


class ChanceTest(SafetyCase):
    def test_plans_by_chance(self):
        words = {}
        for seed, plan, rows in chance_plans(3, 120, range(150)):
            chance = random.Random(seed)
            for kind in ("never", "always", "ahead"):
                for plain in (True, False):
                    facts = [chance_fact(chance, plan, 2, plain) for _ in range(2 if kind == "ahead" else 1)]
                    saying = (kind,) + tuple(facts)
                    word = answer(plan, saying, "all")[0]
                    self.told_alike(plan, saying, word)
                    words[(kind, word)] = words.get((kind, word), 0) + 1
        self.assertEqual(len(words), 6)
        self.assertGreater(min(words.values()), 10)


if __name__ == "__main__":
    unittest.main()
