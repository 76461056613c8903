"""The reading of papers that other tests lean on finds fault with what is none."""

import unittest

from roadsall.answers import answer
from roadsall.plans import read_plan
from papers import Look, faults_of
from samples import LOCK, RESEND, many, some

NOT_TRUE = ("not", ("true",))
STRONG = RESEND + "\nwish strong g hear"
LAST = ("at last", some("g", "sure"))


class PapersTest(unittest.TestCase):
    CASES = [
        (LOCK, ("never", many("f", "in", ">", 1)), "all"), (LOCK, ("never", many("f", "in", ">", 1)), "folded"),
        ("family f 2 r s\nstep a: at r; go s", ("never", NOT_TRUE), "thinned"),
        (LOCK, ("ahead", some("g", "busy"), some("f", "in")), "all"), (LOCK, ("never", some("f", "in")), "all"),
        (RESEND, LAST, "all"), (STRONG, LAST, "all"), (LOCK, ("whenever", some("f", "in"), some("g", "idle")), "all"),
        (RESEND.replace("go r", "go s").replace("1 r", "1 r s"), LAST, "all"), (LOCK, ("always can", some("f", "in")), "all"),
        (LOCK, ("always can", NOT_TRUE), "all"), (RESEND, ("never", ("some knows", "g", NOT_TRUE)), "all"),
    ]

    def test_one_thing_less(self):
        kinds = set()
        for text, saying, way in self.CASES:
            plan = read_plan(text)
            look = Look(plan, saying)
            word, paper = answer(plan, saying, way)
            kinds.add(paper[0])
            self.assertEqual(faults_of(look, (word, paper), way), [])
            for place, part in enumerate(paper):
                for number in range(len(part)) if isinstance(part, list) else ():
                    less = paper[:place] + (part[:number] + part[number + 1:],) + paper[place + 1:]
                    self.assertNotEqual(faults_of(look, (word, less), way), [], (saying, way, place, number))
                    twice = paper[:place] + (part[:number + 1] + part[number:],) + paper[place + 1:]
                    self.assertNotEqual(faults_of(look, (word, twice), way), [], (saying, way, place, number))
        self.assertEqual(len(kinds), 10)

    def test_the_other_word(self):
        for text, saying, way in self.CASES:
            plan = read_plan(text)
            word, paper = answer(plan, saying, way)
            self.assertNotEqual(faults_of(Look(plan, saying), ("no" if word == "yes" else "yes", paper), way), [])

    def test_another_saying(self):
        plan = read_plan(STRONG)
        paper = answer(plan, LAST, "all")[1]
        self.assertNotEqual(faults_of(Look(plan, ("at last", some("g", "sure", "1 = 2"))), ("yes", paper)), [])
        plan = read_plan(RESEND)
        paper = answer(plan, LAST, "all")[1]
        self.assertNotEqual(faults_of(Look(read_plan(STRONG), LAST), ("no", paper)), [])

    def test_lots(self):
        plan = read_plan(STRONG)
        look = Look(plan, LAST)
        word, (name, standings, rows, lots) = answer(plan, LAST, "all")
        for wrong in [[], [([0, 1], None, [])], [([0, 1], ("strong", 1, "hear"), [])], [([0], None, []), ([1], None, [])],
                      [([0, 1], ("weak", 1, "hear"), [])], [([0, 1], ("strong", 0, "hear"), [([0], None, [])])],
                      [([0, 1], ("strong", 0, "send"), [([1], None, [])])], [([], None, [])] + lots,
                      [([0, 1], ("strong", 1, "hear"), [([1], None, [])])]]:
            self.assertNotEqual(faults_of(look, (word, (name, standings, rows, wrong))), [], wrong)


if __name__ == "__main__":
    unittest.main()
