import random
import unittest

from roadsall.answers import answer
from roadsall.desk import Desk
from roadsall.errors import NoFact, NoLine, NoPlan, NoRow, NoText, NoThing, RoadError, TooMany
from roadsall.facts import comings
from roadsall.goers import folded
from roadsall.judge import judge
from roadsall.plans import read_plan, shown_plan
from roadsall.standings import begin, deeds
from roadsall.texts import read_saying, shown_saying
from oracle import chance_fact, chance_plans
from samples import LOCK, RESEND, SMALL_TEXT, cells_plan, one_more_plan

WAYS = ("all", "folded", "thinned")
KINDS = [("never", 1), ("always", 1), ("ahead", 2), ("at last", 1), ("whenever", 2), ("always can", 1)]
NO_ROWS = ["", " ", "plan", "plan ", "plan family f 1 r", "plan family f 1 r\n", "plans\nfamily f 1 r",
" plan\nfamily f 1 r", "Plan\nfamily f 1 r",
           "planfamily f 1 r", "ask", "asknever dry", "ask\nnever dry", "ask\tnever dry", " ask never dry",
           "asks never dry", "Ask never dry", "folded ask never dry",
           "never dry", "standings ", " standings", "standings\n", "standings 1", "standing", "Standings", "folded ",
           "folded never dry", "foldeds",
           "dry ", "dry\n", "not dry", "paper ", "paper 1", "papers", "judge ", "judge yes", "judge\n", "deeds ",
           "deeds 0", "deed", "right", "yes", "ok",
           "thinned", "whole", "all", "plan\rfamily f 1 r", "standings\nfolded", "deeds;", "help"]
TEXTS_OF_A_PLAN = ["standings", "folded", "dry", "deeds", "ask never dry", "ask folded never dry",
"ask thinned never dry", "ask ", "ask nothing",
                   "ask folded ", "ask never some nobody"]
TEXTS_OF_AN_ANSWER = ["paper", "judge"]


def desk_with(text):
    desk = Desk()
    assert desk.say("plan\n" + text) == "ok"
    return desk


class DeskCase(unittest.TestCase):
    def refused(self, desk, text, error):
        with self.assertRaises(RoadError, msg=text) as caught:
            desk.say(text)
        self.assertIs(type(caught.exception), error, text)
        return caught.exception

    def told(self, desk, *texts):
        return [desk.say(text) for text in texts]


class RowsTest(DeskCase):
    def test_no_rows(self):
        for desk in (Desk(), desk_with(LOCK)):
            for text in NO_ROWS:
                self.refused(desk, text, NoRow)
            self.assertEqual(desk.say("plan\n" + LOCK), "ok")
            self.assertEqual(desk.say("ask never dry"), "yes")
            for text in NO_ROWS:
                self.refused(desk, text, NoRow)

    def test_no_plan(self):
        desk = Desk()
        for text in TEXTS_OF_A_PLAN + TEXTS_OF_AN_ANSWER:
            self.refused(desk, text, NoThing)
        self.refused(desk, "plan\nfamily f", NoLine)
        self.refused(desk, "plan\nfamily f 0 r", NoPlan)
        for text in TEXTS_OF_A_PLAN + TEXTS_OF_AN_ANSWER:
            self.refused(desk, text, NoThing)

    def test_no_answer(self):
        desk = desk_with(LOCK)
        for text in TEXTS_OF_AN_ANSWER:
            self.refused(desk, text, NoThing)
        self.assertEqual(self.told(desk, "standings", "deeds"), ["28", "step 0 ask; step 1 ask"])
        for text, error in [("ask never", NoText), ("ask never some nobody", NoFact)]:
            self.refused(desk, text, error)
        for text in TEXTS_OF_AN_ANSWER:
            self.refused(desk, text, NoThing)
        self.assertEqual(self.told(desk, "ask never dry", "paper", "judge"), ["yes", "all 28", "right"])

    def test_a_plan_told_anew(self):
        desk = desk_with(LOCK)
        self.assertEqual(self.told(desk, "ask never dry", "paper"), ["yes", "all 28"])
        for text in (LOCK, RESEND):
            self.assertEqual(desk.say("plan\n" + text), "ok")
            for word in TEXTS_OF_AN_ANSWER:
                self.refused(desk, word, NoThing)
            self.assertEqual(self.told(desk, "standings", "ask never dry"), [str(len(comings(read_plan(text)))), "yes"])

    def test_plans_that_are_refused(self):
        desk = desk_with(LOCK)
        self.told(desk, "ask folded never many f at in > 1")
        for text, error, line in [("", NoLine, 0), ("\n", NoLine, 0), ("family f 1 r\n", NoLine, 1),
                                  ("family f 1 r\nstep a: go r", NoLine, 1), (" family f 1 r", NoLine, 0),
                                  ("family f 9 r", NoPlan, None), ("family f 1 r\nwish weak f a", NoPlan, None),
                                  ("plan\nfamily f 1 r", NoLine, 0)]:
            caught = self.refused(desk, "plan\n" + text, error)
            self.assertEqual(getattr(caught, "line", None), line)
            self.assertEqual(self.told(desk, "standings", "folded", "paper", "judge"),
                             ["28", "15", "folded 15", "right"])


class AskTest(DeskCase):
    def test_ways(self):
        plan = read_plan(LOCK)
        desk = desk_with(LOCK)
        for way, saying, word, name in [
            ("all", "never many f at in > 1", "yes", "all"), ("folded", "never many f at in > 1", "yes", "folded"),
            ("thinned", "never many f at in > 1", "yes", "thinned"), ("all", "never some f at in", "no", "run"),
            ("folded", "never some f at in", "no", "run"), ("thinned", "never some f at in", "no", "run"),
            ("folded", "never dry", "yes", "all"), ("thinned", "never dry", "yes", "all"),
            ("all", "[some g at busy] ahead of [some f at in]", "yes", "all"),
            ("folded", "[some g at busy] ahead of [some f at in]", "yes", "folded"),
            ("all", "always can some f at in", "yes", "ways"), ("thinned", "always can all f at in", "no", "shut"),
            ("all", "at last some f at in", "yes", "lots"), ("folded", "at last all f at wait", "no", "round"),
            ("all", "whenever [some f at wait] at last [some f at in]", "yes", "lots"),
            ("all", "always some f knows [true]", "yes", "whole"),
            ("folded", "never each g knows [some f at in]", "yes", "whole"),
        ]:
            text = f"ask {saying}" if way == "all" else f"ask {way} {saying}"
            told, paper = answer(plan, read_saying(saying), way)
            self.assertEqual((told, paper[0]), (word, name))
            self.assertEqual(self.told(desk, text, "paper", "judge"), [word, f"{name} {len(paper[1])}", "right"])
        thin = desk_with("family f 2 r s\nstep a: at r; go s")
        for way, paper in [("", "all 4"), ("folded ", "folded 3"), ("thinned ", "thinned 3")]:
            self.assertEqual(self.told(thin, f"ask {way}never not true", "paper", "judge"), ["yes", paper, "right"])

    def test_blanks(self):
        desk = desk_with(LOCK)
        for text in ["ask never dry", "ask  never dry", "ask never dry ", "ask   never   [dry]",
                     "ask folded  never dry", "ask thinned   never dry"]:
            self.assertEqual(desk.say(text), "yes")
        for text in ["ask  folded never dry", "ask folded thinned never dry", "ask thinned folded never dry",
                     "ask all never dry", "ask foldednever dry",
                     "ask folded[dry] ahead of [dry]", "ask folded", "ask thinned", "ask ", "ask  ", "ask never dry\n",
                     "ask never\ndry", "ask yes", "ask dry", "ask folded dry", "ask paper", "ask Folded never dry"]:
            self.refused(desk, text, NoText)

    def test_what_is_refused_changes_nothing(self):
        desk = desk_with(LOCK)
        self.assertEqual(desk.say("ask at last all f at wait"), "no")
        kept = self.told(desk, "paper", "judge", "standings", "folded", "dry", "deeds")
        for text, error in [("ask never", NoText), ("ask folded never some f at nowhere", NoFact),
                            ("ask never some h", NoFact), ("ask never some f when [c = 1]", NoFact),
                            ("ask thinned never letters f to h = 1", NoFact), ("ask nothing", NoText),
                            ("plan\n", NoLine), ("plan\nfamily f 6 r", NoPlan), ("plan", NoRow), ("", NoRow)]:
            self.refused(desk, text, error)
            self.assertEqual(self.told(desk, "paper", "judge", "standings", "folded", "dry", "deeds"), kept)

    def test_the_order_of_refusals(self):
        # The reader ahead of NoFact, NoFact ahead of TooMany, NoThing ahead of all three.
        desk = Desk()
        for text in ["ask never some nobody at", "ask never some nobody", "ask never dry"]:
            self.refused(desk, text, NoThing)
        desk.say("plan\n" + shown_plan(one_more_plan()))
        self.refused(desk, "ask never some nobody at", NoText)
        self.refused(desk, "ask never some nobody", NoFact)
        self.refused(desk, "ask folded never some f at u", NoFact)
        for text in ["ask never dry", "ask folded never not true", "ask thinned always true", "ask at last true",
                     "ask always can true", "standings", "folded", "dry"]:
            self.refused(desk, text, TooMany)
        self.refused(desk, "paper", NoThing)
        self.assertEqual(desk.say("deeds"), "step 0 ra; step 0 rb; step 0 rc; step 0 over")

    def test_too_many_keeps_the_last_answer(self):
        # One plan, so the same sayings are all refused; then another, of just 2,000.
        desk = desk_with(shown_plan(cells_plan()))
        self.assertEqual(self.told(desk, "standings", "folded", "dry", "ask never dry", "paper"),
                         ["2000", "2000", "1", "no", "run 28"])
        self.refused(desk, "plan\n" + shown_plan(one_more_plan()) + "\n", NoLine)
        self.assertEqual(self.told(desk, "paper", "judge"), ["run 28", "right"])
        self.assertEqual(desk.say("plan\n" + shown_plan(one_more_plan())), "ok")
        self.refused(desk, "ask never dry", TooMany)
        self.refused(desk, "judge", NoThing)

    def test_folded_where_more_than_2000_come(self):
        text = "family f 5 r s t u v\n" + "\n".join(f"step {a}: at {a}; go {b}" for a, b in zip("rstu", "stuv"))
        desk = desk_with(text)
        self.refused(desk, "standings", TooMany)
        self.refused(desk, "dry", TooMany)
        self.refused(desk, "ask folded never dry", TooMany)
        self.assertEqual(desk.say("folded"), "126")


class DeedsTest(DeskCase):
    def test_deeds(self):
        for text, shown in [
            ("family f 1 r", ""), ("family f 2 r s\nstep a: at r; go s\nstep b: at s; go r", "step 0 a; step 1 a"),
            (LOCK, "step 0 ask; step 1 ask"),
            ("family f 3 r\nstep a: at r; send m 0 to any f; go r\nroad f f row 1",
            "step 0 a to 1; step 0 a to 2; step 1 a to 0; step 1 a to 2; step 2 a to 0; step 2 a to 1"),
            ("family f 1 r\nstep a: at r; send m 0 to any g; send n 1 to all g; send m 2 to any g; go r\nfamily g 2 r\nroad f g heap 3",
             "step 0 a to 1 1; step 0 a to 1 2; step 0 a to 2 1; step 0 a to 2 2"),
            ("family f 1 r\nstep a: at r; send m 0 to all g; go r\nstep b: at r; go r\nfamily g 1 r\nstep c: at r; take m from f; go r\nroad f g heap 1 loses doubles",
             "step 0 a; step 0 b"),
            (SMALL_TEXT, "step 0 ask; step 1 ask"),
        ]:
            desk = desk_with(text)
            self.assertEqual(desk.say("deeds"), shown)
            self.assertEqual(desk.say("deeds"), shown)
            self.assertEqual(shown, shown_deeds(read_plan(text)))


def shown_deeds(plan):
    texts = []
    for word, hand, name, letter, hands in deeds(plan, begin(plan)):
        texts.append(f"{word} {hand} {name}" + (" to " + " ".join(map(str, hands)) if hands else ""))
    return "; ".join(texts)


class WholeProgramTest(DeskCase):
    def test_two_desks(self):
        one, other = desk_with(LOCK), desk_with(RESEND)
        third = Desk()
        self.assertEqual((one.say("standings"), other.say("standings")), ("28", "4"))
        self.assertEqual((one.say("ask never dry"), one.say("paper")), ("yes", "all 28"))
        self.refused(other, "paper", NoThing)
        self.assertEqual((other.say("ask always can not some g at sure"), other.say("paper")), ("no", "shut 2"))
        self.assertEqual((one.say("paper"), one.say("judge")), ("all 28", "right"))
        self.refused(third, "standings", NoThing)
        other.say("plan\n" + LOCK)
        self.assertEqual((one.say("paper"), other.say("standings")), ("all 28", "28"))

    def test_against_the_functions(self):
        words = set()
        for seed, plan, rows in chance_plans(2, 60, range(500, 620)):
            chance = random.Random(seed)
            desk = desk_with(shown_plan(plan))
            dry = sum(not deeds(plan, standing) for standing in comings(plan))
            for _ in range(2):
                self.assertEqual(self.told(desk, "standings", "folded", "dry", "deeds"),
                                 [str(len(rows)), str(len(folded(plan))), str(dry), shown_deeds(plan)])
            for kind, number in KINDS:
                saying = (kind,) + tuple(chance_fact(chance, plan, 2, chance.random() < 0.5) for _ in range(number))
                found = set()
                for way in WAYS:
                    word, paper = answer(plan, saying, way)
                    text = shown_saying(saying) if way == "all" else f"{way} {shown_saying(saying)}"
                    self.assertTrue(judge(plan, saying, word, paper))
                    for _ in range(2):
                        self.assertEqual(self.told(desk, f"ask {text}", "paper", "judge", "paper"),
                                         [word, f"{paper[0]} {len(paper[1])}", "right", f"{paper[0]} {len(paper[1])}"])
                    self.assertEqual((desk.last[1:]), (word, paper))
                    found.add(word)
                    words.add((kind, word))
                self.assertEqual(len(found), 1)
        self.assertEqual(len(words), 12)

    def test_a_paper_that_was_spoilt(self):
        # The desk looks at the paper that it keeps.
        desk = desk_with(LOCK)
        desk.say("ask never dry")
        saying, word, paper = desk.last
        paper[1].pop()
        self.assertEqual(self.told(desk, "paper", "judge"), ["all 27", "wrong"])
        self.assertEqual(self.told(desk, "ask never dry", "paper", "judge"), ["yes", "all 28", "right"])


if __name__ == "__main__":
    unittest.main()
