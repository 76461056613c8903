"""The judge against a slow second reading of the document, on papers bent at one place, and on anything at all."""

import random
import unittest

from roadsall.answers import answer
from roadsall.judge import judge
from roadsall.plans import read_plan
from bends import JUNK, bends, bent_at, places_in, reordered
from judging import JudgeCase
from oracle import all_behind, chance_fact, chance_plans, chance_standing, chance_walk_plan
from papers import Look, is_right
from samples import LOCK, RESEND, every, many, some

WAYS = ("all", "folded", "thinned")
KINDS = [("never", 1), ("always", 1), ("ahead", 2), ("at last", 1), ("whenever", 2), ("always can", 1)]
NOT_TRUE = ("not", ("true",))
ASK = """family f 1 r s
step ask: at r; send m 1 to any g; go s
step again: at s; go r
family g 2 idle
cell c 0 1 0
who w
step hear: at idle; take m from f into c by w; go idle
road f g heap 1 loses"""
SURE = some("g", "sure")


def chance_saying(chance, plan, kind, number, plain):
    return (kind,) + tuple(chance_fact(chance, plan, 2, plain) for _ in range(number))


def chance_sayings(seeds, most):
    """Plans by chance, each with a saying of each kind, about plain facts and about any."""
    for seed, plan, rows in chance_plans(3, most, seeds):
        chance = random.Random(seed)
        for kind, number in KINDS:
            for plain in (True, False):
                yield chance, plan, chance_saying(chance, plan, kind, number, plain)


def depth_of(thing):
    return 1 + max([depth_of(part) for part in thing], default=0) if isinstance(thing, (list, tuple)) else 0


def name_of(paper):
    return f"whole {paper[2][0]}" if paper[0] == "whole" else paper[0]


class ToldTest(JudgeCase):
    def test_what_answer_tells(self):
        names = set()
        for chance, plan, saying in chance_sayings(range(160), 80):
            for way in WAYS:
                word, paper = answer(plan, saying, way)
                self.right(plan, saying, word, paper, reordered(chance, paper))
                names.add(name_of(paper))
        self.assertGreaterEqual(len(names), 16)

    def test_whatever_is_let_by_is_right(self):
        # Papers for other sayings about the same plan, and for other answers.
        let_by = 0
        for seed, plan, rows in chance_plans(3, 40, range(560, 640)):
            chance = random.Random(seed)
            sayings = [chance_saying(chance, plan, kind, number, True) for kind, number in KINDS * 2]
            told = [answer(plan, saying, chance.choice(WAYS)) for saying in sayings]
            for saying, (right, own) in zip(sayings, told):
                for _, paper in told:
                    for word in ("yes", "no"):
                        if judge(plan, saying, word, paper):
                            self.assertEqual(word, right)
                            let_by += paper is not own
        self.assertGreater(let_by, 300)

    def test_lots_and_rounds_of_walks(self):
        names = set()
        for seed in range(400):
            plan = chance_walk_plan(seed)
            chance = random.Random(seed)
            for saying in [("at last", some("f", plan[0][0][2][-1])), chance_saying(chance, plan, "whenever", 2, True)]:
                word, paper = answer(plan, saying, "all")
                self.right(plan, saying, word, paper, reordered(chance, paper))
                names.add((name_of(paper), "strong" in str(paper), "'weak'" in str(paper)))
        self.assertGreaterEqual(len(names), 5)

    def test_lots_more_than_forty_deep(self):
        # One letter goes around among four hands with a number of six; who has it may go out, by another step for each
        # number. So there are 24 strong wishes, and what each of them leaves over is still one lot.
        lines = ["family f 4 idle in out", "cell c 0 5 0", "step take: at idle; take t from g into c; go in",
                 "step pass: at in; set c 0; send t 0 to all g; go idle"]
        lines += [f"step x{sign}: at in; when c = {number}; go out" for number, sign in enumerate("abcdef")]
        lines += ["family g 1 start hub", "step start: at start; send t 0 to any f; go hub"]
        lines += [f"step r{sign}: at hub; take t from f; send t {number} to any f; go hub"
                  for number, sign in enumerate("abcdef")]
        lines += ["road f g row 1", "road g f row 1"]
        plan = read_plan("\n".join(lines + [f"wish strong f x{sign}" for sign in "abcdef"]))
        saying = ("at last", some("f", "out"))
        word, paper = answer(plan, saying, "all")
        self.right(plan, saying, word, paper)
        self.assertGreater(depth_of(paper), 40)


class BentTest(JudgeCase):
    CASES = [
        (RESEND, ("never", many("g", "", ">", 1)), "all"), (RESEND, ("never", SURE), "all"),
        (ASK, ("always", some("g", "idle")), "folded"),
        ("family f 2 r s\nstep a: at r; go s", ("never", NOT_TRUE), "thinned"),
        ("family f 1 r s t\nstep a: at r; go s\nstep b: at s; go t", ("ahead", some("f", "s"), some("f", "t")),
        "thinned"),
        (RESEND, ("at last", SURE), "all"), (RESEND + "\nwish strong g hear", ("at last", SURE), "all"),
        (RESEND + "\nwish weak f send\nwish strong g hear", ("whenever", ("letters", "f", "g", "", ">", 0), SURE),
        "all"),
        (RESEND.replace("go r", "go s").replace("1 r", "1 r s"), ("at last", SURE), "all"),
        (RESEND, ("always can", SURE), "all"), (RESEND, ("always can", ("not", SURE)), "all"),
        (RESEND, ("never", ("some knows", "g", NOT_TRUE)), "all"),
        (RESEND, ("at last", ("each knows", "g", SURE)), "all"),
    ]

    def test_bent_at_each_place(self):
        found = {}
        for text, saying, way in self.CASES:
            plan = read_plan(text)
            look = Look(plan, saying)
            word, paper = answer(plan, saying, way)
            self.right(plan, saying, word, paper)
            for bent in bends(paper):
                good = is_right(look, word, bent)
                self.assertIs(judge(plan, saying, word, bent), good, bent)
                found.setdefault(name_of(paper), []).append(good)
        self.assertEqual(len(found), 11)
        for name, goods in found.items():
            self.assertGreater(len(goods), 60, name)
            # A few bent ones are right in another way: a greater number, or two that may stand in either order.
            self.assertLess(goods.count(True), len(goods) // 10, name)

    def test_bent_by_chance(self):
        names = {}
        for chance, plan, saying in chance_sayings(range(300, 400), 60):
            look = Look(plan, saying)
            for way in WAYS:
                word, paper = answer(plan, saying, way)
                places = places_in(paper)
                for _ in range(10):
                    bent = bent_at(paper, chance.choice(places), chance)
                    self.assertIs(judge(plan, saying, word, bent), is_right(look, word, bent), (saying, bent))
                    names[name_of(paper)] = names.get(name_of(paper), 0) + 1
        self.assertGreaterEqual(len(names), 16)

    def test_standings_besides(self):
        found = []
        for chance, plan, saying in chance_sayings(range(420, 560), 60):
            word, paper = answer(plan, saying, "all")
            more = all_behind(plan, chance_standing(chance, plan), 30)
            inner = paper[2] if paper[0] == "whole" else paper
            if more is None or inner[0] not in ("all", "ways", "lots", "shut"):
                continue
            besides = self.with_besides(inner, [one for one in more if one not in standings_in(inner)])
            besides = ("whole", paper[1], besides) if paper[0] == "whole" else besides
            good = is_right(Look(plan, saying), word, besides)
            self.assertIs(judge(plan, saying, word, besides), good, besides)
            found.append((inner[0], good))
        for name in ("all", "ways", "lots", "shut"):
            self.assertGreater(found.count((name, True)), 3, name)
            self.assertGreater(found.count((name, False)), 3, name)

    def with_besides(self, paper, more):
        if paper[0] == "all":
            return ("all", paper[1] + more)
        if paper[0] == "ways":
            return ("ways", paper[1] + [(one, 50 + place) for place, one in enumerate(reversed(more))])
        if paper[0] == "shut":
            return ("shut", paper[1], paper[2] + more)
        return ("lots", paper[1] + more) + paper[2:]


def standings_in(paper):
    """The standings of a paper's lists."""
    lists = {"all": paper[1], "ways": [row[0] for row in paper[1]], "shut": paper[-1], "lots": paper[1]}
    return lists[paper[0]]


class AnythingTest(JudgeCase):
    PLAN = read_plan(LOCK + "\nwish strong g grant\nwish weak f enter")
    SAYINGS = [("never", many("f", "in", ">", 1)), ("never", some("f", "in")),
    ("ahead", some("g", "busy"), some("f", "in")),
               ("at last", some("f", "in")), ("at last", every("f", "in")), ("whenever", ("true",), some("f", "in")),
               ("always can", some("f", "in")), ("always can", every("f", "in")),
               ("always", ("some knows", "f", ("true",)))]
    NAMES = ("all", "folded", "thinned", "run", "lots", "round", "end", "ways", "shut", "whole")

    def anything(self, chance, depth):
        if depth == 0 or chance.random() < 0.3:
            return chance.choice(JUNK + self.NAMES + (7, -7, 10 ** 30, "step", "lose", "in"))
        kind = chance.choice([list, tuple])
        return kind(self.anything(chance, depth - 1) for _ in range(chance.choice([0, 1, 2, 3])))

    def test_anything(self):
        chance = random.Random(5)
        looks = {saying: Look(self.PLAN, saying) for saying in self.SAYINGS}
        for _ in range(1500):
            thing = self.anything(chance, 5)
            for paper in (thing, (chance.choice(self.NAMES), thing), (chance.choice(self.NAMES), [], thing),
                          (chance.choice(self.NAMES), [thing]), ("lots", [], [], thing)):
                saying = chance.choice(self.SAYINGS)
                self.wrong(self.PLAN, saying, "yes", paper)
                self.assertIs(judge(self.PLAN, saying, "no", paper), is_right(looks[saying], "no", paper))

    def test_other_kinds_of_things(self):
        plan = read_plan("family f 1 r s\nstep a: at r; go s")
        self.right(plan, ("never", some("f", "s")), "no", ("run", [("step", 0, "a", None, ())]))
        for thing in (0.0, False, b"a", {}, {0}, frozenset(), object()):
            self.wrong(plan, ("never", some("f", "s")), "no", thing, ("run", thing), ("run", [thing]),
                       ("run", [("step", thing, "a", None, ())]), ("run", [("step", 0, "a", None, thing)]))
            self.wrong(plan, ("always can", ("true",)), "yes", ("ways", [thing]), ("ways", [(thing, 0)]), ("ways", thing))

    def test_forty_deep(self):
        for wrap in (lambda thing: [thing], lambda thing: (thing,),
        lambda thing: ([0], ("strong", 2, "grant"), [thing])):
            for core in (None, 0, "x", [], ([0], None, [])):
                thing = core
                for _ in range(38):
                    thing = wrap(thing)
                for saying in self.SAYINGS:
                    for word in ("yes", "no"):
                        word_of_all = [(name, thing) for name in self.NAMES] + [(name, [thing],
                        [thing]) for name in self.NAMES]
                        self.wrong(self.PLAN, saying, word, thing, ("lots", [], [], thing),
                                   ("lots", thing, thing, thing), *word_of_all)


if __name__ == "__main__":
    unittest.main()
