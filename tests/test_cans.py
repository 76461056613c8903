import random
import unittest

from roadsall.answers import answer
from roadsall.facts import comings
from roadsall.plans import read_plan
from roadsall.standings import begin, ends_from
from oracle import chance_fact, chance_plans
from papers import Look, faults_of
from samples import LOCK, RESEND, every, many, some, told

NOT_TRUE = ("not", ("true",))
BRANCH = "family f 1 r s t u\nstep a: at r; go s\nstep b: at s; go r\nstep c: at s; go t\nstep d: at t; go u\nstep e: at u; go t"


class CanTest(unittest.TestCase):
    def told(self, plan, fact, word):
        look = Look(plan, ("always can", fact))
        found = answer(plan, ("always can", fact), "all")
        self.assertEqual(found[0], word, fact)
        self.assertEqual(faults_of(look, found), [], fact)
        for way in ("folded", "thinned"):
            self.assertEqual(answer(plan, ("always can", fact), way), found)
        return found[1]

    def test_yes(self):
        plan = read_plan(LOCK)
        for fact in [some("f", "in"), every("f", "out"), some("g", "idle"), every("f", "wait"), ("true",),
                     ("letters", "f", "g", "free", "=", 1), ("and", some("f", "in"), some("f", "wait"))]:
            self.told(plan, fact, "yes")

    def test_no(self):
        plan = read_plan(LOCK)
        for fact in [every("f", "in"), NOT_TRUE, ("dry",), ("and", some("f", "in"), some("g", "idle"))]:
            self.assertEqual(self.told(plan, fact, "no")[:2], ("shut", []))

    def test_numbers_can_be_walked_down(self):
        plan = read_plan(BRANCH)
        for fact in [some("f", "t"), some("f", "u"), ("or", some("f", "t"), some("f", "r"))]:
            name, rows = self.told(plan, fact, "yes")
            self.assertEqual(name, "ways")
            self.assertEqual(sorted(row[0] for row in rows), sorted(comings(plan)))
        numbers = dict(self.told(plan, some("f", "u"), "yes")[1])
        for standing, number in numbers.items():
            while standing[0][0][0] != 3:
                standing = min((end for deed, end in ends_from(plan, standing)), key=numbers.get)
                self.assertLess(numbers[standing], number)
                number = numbers[standing]
            self.assertGreaterEqual(number, 0)

    def test_shut_behind_a_run(self):
        plan = read_plan(BRANCH)
        rooms = {room: ((((place, (), ()),), ())) for place, room in enumerate("rstu")}
        for fact in [some("f", "r"), some("f", "s"), ("or", some("f", "r"), some("f", "s"))]:
            name, deeds, standings = self.told(plan, fact, "no")
            self.assertEqual(name, "shut")
            self.assertEqual(sorted(standings), [rooms["t"], rooms["u"]])
            # The fact may stand on the way there.
            self.assertEqual(deeds[:2], [told(0, "a"), told(0, "c")])

    def test_a_dry_one_is_shut_where_the_fact_does_not_stand(self):
        plan = read_plan("family f 1 r s\nstep a: at r; go s")
        self.assertEqual(self.told(plan, some("f", "r"), "no"), ("shut", [told(0, "a")], [(((1, (), ()),), ())]))
        self.told(plan, some("f", "s"), "yes")
        self.told(plan, ("dry",), "yes")
        plan = read_plan("family f 1 r")
        self.assertEqual(self.told(plan, NOT_TRUE, "no"), ("shut", [], [begin(plan)]))
        name, rows = self.told(plan, some("f", "r"), "yes")
        self.assertEqual([row[0] for row in rows], [begin(plan)])

    def test_wishes_do_not_count(self):
        for wish in ("", "\nwish weak g hear", "\nwish strong g hear"):
            plan = read_plan(RESEND + wish)
            self.told(plan, some("g", "sure"), "yes")
            self.told(plan, some("g", "deaf"), "no")

    def test_lost_letters(self):
        plan = read_plan("""family f 1 r s
step send: at r; send m 0 to all g; go s
family g 1 deaf sure
step hear: at deaf; take m from f; go sure
road f g row 1 loses""")
        name, deeds, standings = self.told(plan, some("g", "sure"), "no")
        self.assertEqual(deeds, [told(0, "send"), ("lose", 0, 1, 0)])
        self.assertEqual(len(standings), 1)
        self.told(plan, ("or", some("f", "s"), many("g", "deaf", "=", 0)), "yes")

    def test_plans_by_chance(self):
        words = {"yes": 0, "no": 0}
        for seed, plan, rows in chance_plans(3, 200, range(250)):
            chance = random.Random(seed)
            for plain in (True, False):
                fact = chance_fact(chance, plan, 2, plain)
                word = answer(plan, ("always can", fact), "all")[0]
                self.told(plan, fact, word)
                words[word] += 1
        self.assertGreater(min(words.values()), 50)


if __name__ == "__main__":
    unittest.main()
