import random
import unittest

from roadsall.answers import answer
from roadsall.facts import comings
from roadsall.plans import read_plan
from roadsall.runs import done_by, keeps, walked, wishes_of
from roadsall.standings import begin, do
from oracle import chance_fact, chance_plans, chance_walk_plan
from papers import Look, awaiting, faults_of
from samples import LOCK, RESEND, every, many, some, told

NOT_TRUE = ("not", ("true",))
SPIN = "family f 1 r s\nstep spin: at r; go r\nstep leave: at r; go s"
TO_AND_FRO = """family f 1 p q out
step there: at p; go q
step back: at q; go p
step leave: at p; go out"""
# From each of three rooms in a line, but the middle one, a way out.
LINE = """family f 1 p q r out
step pq: at p; go q
step qp: at q; go p
step qr: at q; go r
step rq: at r; go q
step pout: at p; go out
step rout: at r; go out"""


def room(*places):
    return (tuple((place, (), ()) for place in places), ())


class LastingCase(unittest.TestCase):
    def told(self, plan, saying, word):
        plan = read_plan(plan) if isinstance(plan, str) else plan
        look = Look(plan, saying)
        found = answer(plan, saying, "all")
        self.assertEqual(found[0], word, saying)
        self.assertEqual(faults_of(look, found), [], saying)
        for way in ("folded", "thinned"):
            self.assertEqual(answer(plan, saying, way), found)
        return found[1]


class NoWishesTest(LastingCase):
    def test_each_run_comes_there(self):
        paper = self.told("family f 1 r s t\nstep a: at r; go s\nstep b: at s; go t", ("at last", some("f", "t")), "yes")
        self.assertEqual(paper, ("lots", [room(0), room(1), room(2)], [room(0), room(1)],
                                 [([0], None, []), ([1], None, [])]))

    def test_lots_one_behind_the_other(self):
        plan = read_plan("family f 2 r s t\nstep a: at r; go s\nstep b: at s; go t")
        name, standings, rows, lots = self.told(plan, ("at last", every("f", "t")), "yes")
        self.assertEqual((name, len(standings), len(rows)), ("lots", 9, 8))
        self.assertEqual({(wish, str(rest)) for places, wish, rest in lots}, {(None, "[]")})

    def test_lock(self):
        self.told(LOCK, ("at last", some("f", "in")), "yes")
        self.told(LOCK, ("at last", every("f", "wait")), "no")
        self.told(LOCK, ("whenever", some("g", "busy"), some("g", "idle")), "yes")
        self.told(LOCK, ("whenever", some("f", "wait"), some("f", "in")), "yes")
        self.told(LOCK, ("whenever", some("f", "in"), every("f", "out")), "no")

    def test_the_fact_at_the_beginning(self):
        plan = read_plan(LOCK)
        for fact in (every("f", "out"), ("true",), some("g", "idle")):
            self.assertEqual(self.told(plan, ("at last", fact), "yes"), ("lots", [begin(plan)], [], []))

    def test_what_comes_behind_the_fact_alone_is_not_looked_at(self):
        plan = "family f 1 r s t\nstep a: at r; go s\nstep b: at s; go t\nstep c: at t; go t"
        paper = self.told(plan, ("at last", some("f", "s")), "yes")
        self.assertEqual(paper, ("lots", [room(0), room(1)], [room(0)], [([0], None, [])]))

    def test_a_round(self):
        paper = self.told(SPIN, ("at last", some("f", "s")), "no")
        self.assertEqual(paper[:2], ("round", []))
        self.assertEqual(set(paper[2]), {told(0, "spin")})
        paper = self.told(TO_AND_FRO, ("at last", some("f", "out")), "no")
        self.assertEqual(paper[0], "round")

    def test_a_round_behind_a_run(self):
        plan = "family f 1 r s t u\nstep a: at r; go s\nstep b: at s; go t\nstep c: at t; go s\nstep d: at t; go u"
        name, deeds, more = self.told(plan, ("at last", some("f", "u")), "no")
        self.assertEqual(name, "round")
        self.assertEqual({deed[2] for deed in more}, {"b", "c"})

    def test_an_end(self):
        plan = "family f 1 r s t\nstep a: at r; go s\nstep b: at r; go t"
        self.assertEqual(self.told(plan, ("at last", some("f", "s")), "no"), ("end", [told(0, "b")]))
        self.assertEqual(self.told(plan, ("at last", NOT_TRUE), "no")[0], "end")
        self.assertEqual(self.told("family f 1 r", ("at last", NOT_TRUE), "no"), ("end", []))
        self.told(plan, ("at last", ("or", some("f", "s"), some("f", "t"))), "yes")
        self.told(plan, ("at last", ("dry",)), "yes")

    def test_an_end_where_a_letter_is_lost(self):
        plan = """family f 1 r s
step send: at r; send m 0 to all g; go s
family g 1 deaf sure
step hear: at deaf; take m from f; go sure
road f g row 1"""
        self.told(plan, ("at last", some("g", "sure")), "yes")
        for wish in ("", "\nwish strong g hear"):
            paper = self.told(plan + " loses" + wish, ("at last", some("g", "sure")), "no")
            self.assertEqual(paper, ("end", [told(0, "send"), ("lose", 0, 1, 0)]))


class WishTest(LastingCase):
    def test_weak(self):
        for kind in ("weak", "strong"):
            paper = self.told(SPIN + f"\nwish {kind} f leave", ("at last", some("f", "s")), "yes")
            self.assertEqual(paper, ("lots", [room(0), room(1)], [room(0)], [([0], (kind, 0, "leave"), [])]))

    def test_a_wish_that_does_not_help(self):
        for kind in ("weak", "strong"):
            self.told(SPIN + f"\nwish {kind} f spin", ("at last", some("f", "s")), "no")
            self.told(TO_AND_FRO + f"\nwish {kind} f there\nwish {kind} f back", ("at last", some("f", "out")), "no")

    def test_weak_is_not_enough_where_it_is_not_able_at_times(self):
        name, deeds, more = self.told(TO_AND_FRO + "\nwish weak f leave", ("at last", some("f", "out")), "no")
        self.assertEqual(name, "round")
        self.assertEqual({deed[2] for deed in more}, {"there", "back"})

    def test_strong_with_rest(self):
        name, standings, rows, lots = self.told(TO_AND_FRO + "\nwish strong f leave", ("at last", some("f", "out")), "yes")
        self.assertEqual(rows, [room(0), room(1)])
        self.assertEqual(lots, [([0, 1], ("strong", 0, "leave"), [([1], None, [])])])

    def test_rest_within_rest(self):
        wishes = "\nwish strong f pout\nwish strong f rout"
        name, standings, rows, lots = self.told(LINE + wishes, ("at last", some("f", "out")), "yes")
        [(places, wish, rest)] = lots
        [(inner, inner_wish, inner_rest)] = rest
        self.assertEqual(sorted(places), [0, 1, 2])
        self.assertEqual({wish, inner_wish}, {("strong", 0, "pout"), ("strong", 0, "rout")})
        self.assertEqual([rows[place] for lot in inner_rest for place in lot[0]], [room(1)])
        self.assertEqual([lot[1:] for lot in inner_rest], [(None, [])])

    def test_rest_with_several_lots(self):
        # Where the middle is left out, the ends of the line are two lots, each with a wish of its own.
        plan = """family f 1 p q r out
step pq: at p; go q
step qp: at q; go p
step qr: at q; go r
step rq: at r; go q
step pp: at p; go p
step qout: at q; go out
step pout: at p; go out
wish strong f qout
wish weak f pout"""
        name, standings, rows, lots = self.told(plan, ("at last", some("f", "out")), "yes")
        [(places, wish, rest)] = lots
        self.assertEqual(wish, ("strong", 0, "qout"))
        found = {rows[lot[0][0]]: lot[1:] for lot in rest}
        self.assertEqual(found, {room(0): (("weak", 0, "pout"), []), room(2): (None, [])})

    def test_one_of_two_strong_ones_is_not_enough(self):
        for wish, rooms in [("pout", {"qr", "rq"}), ("rout", {"pq", "qp"})]:
            name, deeds, more = self.told(LINE + f"\nwish strong f {wish}", ("at last", some("f", "out")), "no")
            self.assertEqual(name, "round")
            self.assertEqual({deed[2] for deed in more}, rooms)

    def test_a_letter_that_may_be_lost(self):
        saying = ("at last", some("g", "sure"))
        self.assertEqual(self.told(RESEND, saying, "no")[0], "round")
        self.assertEqual(self.told(RESEND + "\nwish weak g hear", saying, "no")[0], "round")
        self.assertEqual(self.told(RESEND + "\nwish weak f send\nwish weak g hear", saying, "no")[0], "round")
        name, standings, rows, lots = self.told(RESEND + "\nwish strong g hear", saying, "yes")
        self.assertEqual(lots, [([0, 1], ("strong", 1, "hear"), [([0], None, [])])])

    def test_a_wish_is_for_each_hand_apart(self):
        plan = "family f 2 r s\nstep spin: at r; go r\nstep leave: at r; go s\nstep rest: at s; go s"
        self.told(plan + "\nwish weak f leave", ("at last", every("f", "s")), "yes")
        self.told(plan + "\nwish weak f leave", ("at last", many("f", "s", "=", 1)), "yes")
        self.told(plan + "\nwish weak f spin", ("at last", every("f", "s")), "no")
        name, standings, rows, lots = self.told(plan + "\nwish weak f leave", ("at last", every("f", "s")), "yes")
        self.assertEqual({lot[1][1] for lot in lots}, {0, 1})

    def test_a_round_keeps_each_wish_for_each_hand(self):
        plan = read_plan("""family f 3 r s t
step there: at r; go s
step back: at s; go r
step out: at r; go t
step home: at t; go r
wish weak f there
wish strong f out
wish strong f back
wish weak f home""")
        name, deeds, more = self.told(plan, ("at last", every("f", "t")), "no")
        self.assertEqual(name, "round")
        around = [walked(plan, deeds)[-1]]
        for deed in more:
            around.append(do(plan, around[-1], deed))
        self.assertEqual(around[0], around[-1])
        for wish in wishes_of(plan):
            self.assertTrue(keeps(plan, wish, around[:-1], more))
            self.assertTrue(any(done_by(plan, wish, deed) for deed in more))

    def test_a_wish_that_is_never_able_asks_nothing(self):
        for kind in ("weak", "strong"):
            wish = f"\nstep never: at s; go r\nwish {kind} f never\nwish {kind} f spin"
            self.assertEqual(self.told(SPIN + wish, ("at last", some("f", "s")), "no")[0], "round")

    def test_weak_and_strong_of_one_step(self):
        for wishes in ("\nwish weak f leave\nwish strong f leave", "\nwish strong f leave\nwish weak f leave"):
            self.told(SPIN + wishes, ("at last", some("f", "s")), "yes")
            self.told(TO_AND_FRO + wishes, ("at last", some("f", "out")), "yes")

    def test_a_flaw_is_no_step_of_a_hand(self):
        # Doublings and losses do no wish, whatever the hands on their road.
        plan = """family f 1 r s
step send: at r; send m 0 to all g; go s
family g 1 deaf sure
step hear: at deaf; take m from f; go sure
road f g heap 2 loses doubles
wish strong g hear"""
        self.assertEqual(self.told(plan, ("at last", some("g", "sure")), "no")[0], "end")


class WheneverTest(LastingCase):
    def test_yes(self):
        plan = read_plan("family f 1 r s t\nstep a: at r; go s\nstep b: at s; go t\nstep c: at t; go r")
        name, standings, rows, lots = self.told(plan, ("whenever", some("f", "s"), some("f", "r")), "yes")
        self.assertEqual(sorted(standings), sorted(comings(plan)))
        self.assertEqual(rows, [room(1), room(2)])
        self.assertEqual(lots, [([0], None, []), ([1], None, [])])

    def test_nothing_is_awaited(self):
        for plan in (read_plan(LOCK), read_plan(SPIN)):
            for one, other in [(NOT_TRUE, NOT_TRUE), (("true",), ("true",)), (some("f"), some("f")), (NOT_TRUE, some("f"))]:
                name, standings, rows, lots = self.told(plan, ("whenever", one, other), "yes")
                self.assertEqual((name, sorted(standings), rows, lots), ("lots", sorted(comings(plan)), [], []))

    def test_at_the_beginning(self):
        plan = "family f 1 r s t\nstep a: at r; go s\nstep b: at s; go t"
        self.told(plan, ("whenever", some("f", "r"), some("f", "t")), "yes")
        self.told(plan, ("whenever", some("f", "r"), some("f", "r")), "yes")
        self.assertEqual(self.told(plan, ("whenever", ("true",), some("f", "r")), "no"),
                         ("end", [told(0, "a"), told(0, "b")]))
        self.told(plan, ("whenever", ("true",), some("f", "t")), "yes")

    def test_what_stands_ahead_does_not_count(self):
        plan = "family f 1 r s t\nstep a: at r; go s\nstep b: at s; go t"
        self.assertEqual(self.told(plan, ("whenever", some("f", "s"), some("f", "r")), "no"),
                         ("end", [told(0, "a"), told(0, "b")]))
        self.told(plan, ("whenever", some("f", "s"), some("f", "t")), "yes")

    def test_a_run_to_the_end_or_round_may_pass_what_is_awaited_first(self):
        plan = "family f 1 r s t\nstep a: at r; go s\nstep b: at s; go t\nstep c: at t; go t"
        name, deeds, more = self.told(plan, ("whenever", some("f", "t"), some("f", "s")), "no")
        self.assertEqual((name, deeds), ("round", [told(0, "a"), told(0, "b")]))
        self.assertEqual(set(more), {told(0, "c")})

    def test_once_is_not_enough(self):
        # The second time that f is in s it stays there.
        plan = """family f 1 r s
cell c 0 1 0
step a: at r; go s
step b: at s; when c = 0; set c 1; go r
step c: at s; when c = 1; go s"""
        self.told(plan, ("at last", some("f", "s", "c = 1")), "yes")
        name, deeds, more = self.told(plan, ("whenever", some("f", "s"), some("f", "r")), "no")
        self.assertEqual(name, "round")
        self.told(plan, ("whenever", some("f", "s", "c = 0"), some("f", "r")), "yes")

    def test_with_wishes(self):
        plan = """family f 2 r s
step ask: at r; send m 0 to all g; go s
step home: at s; take n from g; go r
family g 1 q
who w
step hear: at q; take m from f by w; send n 0 to who w; go q
step idle: at q; go q
road f g row 1
road g f row 1"""
        saying = ("whenever", some("f", "s"), every("f", "r"))
        self.assertEqual(self.told(plan, saying, "no")[0], "round")
        saying = ("whenever", many("f", "s", "=", 2), many("f", "s", "<", 2))
        self.assertEqual(self.told(plan, saying, "no")[0], "round")
        self.assertEqual(self.told(plan + "\nwish weak g hear", saying, "no")[0], "round")
        self.told(plan + "\nwish weak g hear\nwish weak f home", saying, "yes")
        self.told(plan + "\nwish strong g hear\nwish strong f home", saying, "yes")

    def test_a_wish_is_kept_whatever_letter_is_taken(self):
        # The guard keeps its wish by granting to the same one again and again, so that the other waits for ever.
        plan = LOCK.replace("family f 2 out wait in", "family f 2 out wait in\ncell c 0 1 0")
        plan = plan.replace("take grant from g; go in", "take grant from g; set c 1; go in")
        wishes = [f"wish strong {wish}" for wish in ("f ask", "f enter", "f leave", "g grant", "g free")]
        plan = "\n".join([plan] + wishes)
        self.told(plan, ("at last", some("f", "", "c = 1")), "yes")
        name, deeds, more = self.told(plan, ("at last", every("f", "", "c = 1")), "no")
        self.assertEqual(name, "round")
        self.assertEqual(len({deed[1] for deed in more if deed[2] == "enter"}), 1)
        self.told(plan, ("whenever", every("f", "wait"), some("f", "in")), "yes")


class ChanceTest(LastingCase):
    def depth(self, lots):
        return max([1 + self.depth(lot[2]) for lot in lots], default=0)

    def test_plans_by_chance(self):
        papers = {}
        for seed, plan, rows in chance_plans(3, 120, range(200)):
            chance = random.Random(seed)
            for kind, number in (("at last", 1), ("whenever", 2)):
                for plain in (True, False):
                    saying = (kind,) + tuple(chance_fact(chance, plan, 2, plain) for _ in range(number))
                    word = answer(plan, saying, "all")[0]
                    paper = self.told(plan, saying, word)
                    paper = paper[2] if paper[0] == "whole" else paper
                    papers[(kind, paper[0])] = papers.get((kind, paper[0]), 0) + 1
        self.assertEqual(len(papers), 6)
        self.assertGreater(min(papers.values()), 10)

    def test_walks_by_chance(self):
        depths = {}
        for seed in range(700):
            plan = chance_walk_plan(seed)
            chance = random.Random(seed)
            facts = []
            for _ in range(2):
                family = chance.choice(plan[0])
                facts.append(some(family[0], chance.choice(family[2])))
            for saying in [("at last", facts[0]), ("whenever", facts[0], facts[1])]:
                word = answer(plan, saying, "all")[0]
                paper = self.told(plan, saying, word)
                depth = self.depth(paper[3]) if word == "yes" else paper[0]
                depths[depth] = depths.get(depth, 0) + 1
        self.assertLessEqual({0, 1, 2, 3, "round"}, set(depths))

    def test_rows_are_the_awaiting_ones(self):
        for seed in range(100):
            plan = chance_walk_plan(seed)
            saying = ("whenever", some("f", "q"), some("f", "r"))
            word, paper = answer(plan, saying, "all")
            if word == "yes":
                self.assertEqual(set(paper[2]), awaiting(Look(plan, saying)))


if __name__ == "__main__":
    unittest.main()
