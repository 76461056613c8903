"""The judge over all kinds of papers: whole ones, ones of many standings, another answer, what it leaves as it was."""

import copy
import unittest

from roadsall.answers import answer
from roadsall.facts import comings
from roadsall.goers import folded, thinned, whole
from roadsall.judge import judge
from roadsall.plans import read_plan
from roadsall.runs import walked
from roadsall.standings import begin, ends_from
from judging import NOT_TRUE, TRUE, JudgeCase, deeds_of, room
from samples import LOCK, RESEND, every, many, one_more_plan, small_plan, some, told


class WholeTest(JudgeCase):
    # A caller leaves, and the one who hears may hear of it or not.
    CALL = """family caller 1 home away
step leave: at home; send left 0 to all hearer; go away
step wait: at away; go away
family hearer 1 deaf sure
step hear: at deaf; take left from caller; go sure
road caller hearer row 1 loses"""
    AWAY = some("caller", "away")
    KNOWS = ("some knows", "hearer", AWAY)

    def setUp(self):
        self.plan = read_plan(self.CALL)
        self.rows = whole(self.plan)
        self.web = comings(self.plan)

    def test_of_other_sayings_none(self):
        for saying, word, paper in [(("never", NOT_TRUE), "yes", ("all", self.web)),
                                    (("never", TRUE), "no", ("run", [])),
                                    (("always can", NOT_TRUE), "no", ("shut", [], self.web)),
                                    (("never", ("and", ("dry",), NOT_TRUE)), "yes", ("all", self.web))]:
            self.right(self.plan, saying, word, paper)
            self.wrong(self.plan, saying, word, ("whole", self.rows, paper))

    def test_each_kind(self):
        no = ("and", self.KNOWS, ("not", self.AWAY))
        leave, wait = told(0, "leave"), told(0, "wait")
        hear, lose = told(1, "hear", (0, 0)), ("lose", 0, 1, 0)
        sure = [one for one in self.web if one[0][1][0] == 1]
        lost = [one for one in self.web if one[0][0][0] == 1 and one not in sure and one[1] == ((),)]
        for saying, word, paper in [
            (("never", no), "yes", ("all", self.web)), (("always", ("not", no)), "yes", ("all", self.web[::-1])),
            (("never", self.KNOWS), "no", ("run", [leave, hear])),
            (("never", self.KNOWS), "no", ("run", [leave, wait, hear])),
            (("ahead", self.AWAY, self.KNOWS), "yes", ("all", self.web[:2])),
            (("at last", self.KNOWS), "no", ("round", [leave, lose], [wait])),
            (("at last", self.KNOWS), "no", ("round", [leave], [wait, wait])),
            (("at last", ("each knows", "hearer", TRUE)), "yes", ("lots", self.web[:1], [], [])),
            (("whenever", self.KNOWS, self.AWAY), "yes", ("lots", self.web, [], [])),
            (("always can", ("or", self.KNOWS, TRUE)), "yes", ("ways", [(one, 0) for one in self.web])),
            (("always can", self.KNOWS), "no", ("shut", [leave, lose], lost)),
        ]:
            self.right(self.plan, saying, word, ("whole", self.rows, paper))
            self.wrong(self.plan, saying, word, paper, ("whole", self.rows, ("whole", self.rows, paper)),
                       ("whole", paper, self.rows), ("whole", self.rows),
                       ("whole", self.rows, paper, []), ["whole", self.rows, paper],
                       ("whole", tuple(self.rows), paper), ("whole", [], paper),
                       ("whole", self.rows, None), ("whole", None, paper), ("whole", self.rows, list(paper)),
                       ("whole", self.rows[:-1], paper),
                       ("whole", self.rows[1:], paper), ("whole", self.rows[:1] + self.rows, paper),
                       ("whole", self.rows, paper[:1]), ("all", self.rows, paper))

    def test_neither_folded_nor_thinned_within(self):
        saying = ("never", ("and", self.KNOWS, ("not", self.AWAY)))
        self.right(self.plan, saying, "yes", ("whole", self.rows, ("all", self.web)))
        self.wrong(self.plan, saying, "yes", ("whole", self.rows, ("folded", self.web)), ("folded", self.web),
                   ("whole", self.rows, ("thinned", [(one, None, 0) for one in self.web])))

    def test_rows(self):
        saying = ("never", ("each knows", "hearer", NOT_TRUE))
        paper = ("all", self.web)
        rows = self.rows
        self.assertEqual(len(rows), 4)
        self.assertEqual([row[1] for row in rows], [None, 0, 1, 1])
        self.right(self.plan, saying, "yes", ("whole", rows, paper), ("whole", rows[:2] + [rows[3], rows[2]], paper))
        for place, bents in enumerate([
            [(rows[0][0], 0, None), (rows[0][0], None, told(0, "wait")), (rows[0][0], None), (rows[0][0],), rows[0][0],
            [rows[0][0], None, None], None],
            [(rows[1][0], None, None), (rows[1][0], 1, rows[1][2]), (rows[1][0], 1, told(0, "wait")),
            (rows[1][0], -4, rows[1][2]), (rows[1][0], 0, None)],
            [(rows[2][0], 0, rows[2][2]), (rows[2][0], 1, rows[3][2]), (rows[2][0], 3, rows[2][2]),
            (rows[2][0], 2, told(0, "wait")), (rows[2][0], "1", rows[2][2])],
            [(rows[3][0], 2, rows[3][2]), (rows[3][0], -3, rows[3][2]), (rows[3][0], 1, list(rows[3][2])),
            (rows[3][0], 4, rows[3][2]), rows[3] + (0,)],
        ]):
            for bent in bents:
                self.wrong(self.plan, saying, "yes", ("whole", rows[:place] + [bent] + rows[place + 1:], paper))
        self.wrong(self.plan, saying, "yes", ("whole", [rows[1], rows[0]] + rows[2:], paper),
                   ("whole", rows + [(rows[3][0], 1, rows[3][2])], paper))
        # A row that stands ahead of the one it comes from.
        self.wrong(self.plan, saying, "yes", ("whole", [rows[0], (rows[2][0], 2, rows[2][2]),
                   (rows[1][0], 0, rows[1][2]), (rows[3][0], 2, rows[3][2])], paper))

    def test_a_row_is_no_row_ahead_of_itself(self):
        plan = read_plan("family f 1 p q\nstep there: at p; go q\nstep back: at q; go p\nstep stay: at q; go q")
        saying = ("always", ("some knows", "f", TRUE))
        p, q = room(0), room(1)
        for ahead, name, good in [(0, "there", True), (1, "stay", False), (-1, "stay", False), (-2, "there", False)]:
            paper = ("whole", [(p, None, None), (q, ahead, told(0, name))], ("all", [p, q]))
            self.assertIs(judge(plan, saying, "yes", paper), good, ahead)

    def test_besides_within(self):
        # What can't come may stand in the paper within, not among the rows; a hand whose own never comes knows everything.
        plan = read_plan("family f 1 r s t\nstep a: at r; go s")
        r, s, t = [room(place) for place in range(3)]
        rows = whole(plan)
        knows = ("some knows", "f", some("f", "r"))
        saying = ("never", ("and", knows, some("f", "s")))
        self.right(plan, saying, "yes", ("whole", rows, ("all", [r, s])), ("whole", rows, ("all", [r, s, t])))
        self.wrong(plan, saying, "yes", ("whole", rows + [(t, 1, told(0, "a"))], ("all", [r, s, t])),
                   ("whole", rows + [(t, None, None)], ("all", [r, s])))
        self.wrong(plan, ("never", ("and", knows, some("f", "t"))), "yes", ("whole", rows, ("all", [r, s, t])))
        self.right(plan, ("never", ("and", knows, some("f", "t"))), "yes", ("whole", rows, ("all", [r, s])))


class ManyTest(JudgeCase):
    """More than 2,000 standings come: nobody counts them."""

    def test_runs(self):
        plan = one_more_plan()
        run = deeds_of(*["ra"] * 9, *["rb"] * 9, "over", *["sc"] * 9, "end")
        saying = ("never", some("f", "t"))
        self.right(plan, saying, "no", ("run", run), ("run", run[9:18] + run[:9] + run[18:]))
        self.wrong(plan, saying, "no", ("run", run[:-1]), ("run", run[1:]), ("run", run + run[-1:]),
                   ("run", run[:5] + run[6:]), ("run", run[:18] + run[19:]))
        self.right(plan, ("at last", ("not", some("f"))), "no", ("end", run))
        self.wrong(plan, ("at last", some("f", "s")), "no", ("end", run))
        plan = small_plan()
        self.right(plan, ("never", some("server", "busy")), "no", ("run", [told(1, "ask"), told(2, "take", (1, 0))]))
        self.wrong(plan, ("never", some("server", "busy")), "no", ("run", [told(1, "ask"), told(2, "take", (0, 0))]))
        self.wrong(plan, ("never", some("server", "busy")), "yes", ("all", [begin(plan)]), ("folded", [begin(plan)]),
                   ("thinned", [(begin(plan), None, 0)]))

    def test_shut(self):
        plan = read_plan("""family f 1 r s
cell a 0 9 0
cell b 0 9 0
cell c 0 9 0
step ra: at r; set a a + 1; go r
step rb: at r; set b b + 1; go r
step rc: at r; set c c + 1; go r
step out: at r; go s
step sa: at s; when a > 4; set a a - 1; go s
family g 2 r s
step b: at r; go s""")
        saying = ("always can", every("f", "r"))
        one = lambda a, g, h: (((1, (a, 0, 0), ()), (g, (), ()), (h, (), ())), ())
        shut = [one(a, g, h) for a in (5, 4) for g in (0, 1) for h in (0, 1)]
        run = deeds_of(*["ra"] * 5, "out")
        self.right(plan, saying, "no", ("shut", run, shut), ("shut", run + deeds_of("sa"), shut),
                   ("shut", run + deeds_of("sa"), shut[4:]))
        self.right(plan, saying, "no", ("shut", deeds_of("out"), [one(0, g, h) for g in (1, 0) for h in (1, 0)]))
        self.wrong(plan, saying, "no", ("shut", run, shut[1:]), ("shut", run, shut[:-1]), ("shut", run, shut[4:]),
                   ("shut", run[2:], shut), ("shut", run[:-1], shut))
        self.wrong(plan, ("always can", every("g", "s")), "no", ("shut", run, shut))

    def test_lists_of_more_than_2000(self):
        plan = one_more_plan()
        web = [begin(plan)]
        known = {web[0]}
        for standing in web:
            for deed, end in ends_from(plan, standing):
                if end not in known:
                    known.add(end)
                    web.append(end)
        self.assertEqual(len(web), 2001)
        saying = ("never", NOT_TRUE)
        self.right(plan, saying, "yes", ("all", web), ("folded", web[::-1]),
                   ("thinned", [(one, None, 0) for one in web]))
        self.wrong(plan, saying, "yes", ("all", web[:-1]), ("all", web + web[:1]), ("folded", web[1:]))
        self.right(plan, ("always can", NOT_TRUE), "no", ("shut", [], web))
        self.right(plan, ("always can", TRUE), "yes", ("ways", [(one, 0) for one in web]))


    def test_folded_and_thinned_of_far_more(self):
        rooms = "abcdegh"
        steps = [f"step {one}: at {one}; go {other}" for one, other in zip(rooms, rooms[1:])]
        plan = read_plan("\n".join([f"family f 5 {' '.join(rooms)}"] + steps))
        leasts, rows = folded(plan), thinned(plan, [NOT_TRUE])
        self.assertEqual(len(leasts), 462)
        for saying in [("never", NOT_TRUE), ("always", ("or", some("f"), NOT_TRUE))]:
            self.right(plan, saying, "yes", ("folded", leasts), ("folded", leasts[::-1]), ("thinned", rows),
                       ("thinned", rows[:1] + rows[:0:-1]))
            self.wrong(plan, saying, "yes", ("folded", leasts[:-1]), ("thinned", rows[:-1]), ("all", leasts),
                       ("folded", [room(1, 0, 0, 0, 0)] + leasts), ("thinned", rows[::-1]))
        self.right(plan, ("never", every("f", "h")), "no",
                   ("run", [told(hand, name) for hand in range(5) for name in rooms[:-1]]))


class OwnTest(JudgeCase):
    def test_nothing_is_changed_and_the_same_is_told_again(self):
        plan = read_plan(LOCK + "\nwish strong g grant\nwish weak f enter")
        before = copy.deepcopy(plan)
        for saying in [("never", many("f", "in", ">", 1)), ("never", some("f", "in")), ("at last", some("f", "in")),
                       ("whenever", TRUE, every("f", "in")),
                       ("always can", some("f", "in")), ("always can", every("f", "in")),
                       ("always", ("some knows", "f", TRUE))]:
            for way in ("all", "folded", "thinned"):
                word, paper = answer(plan, saying, way)
                kept = copy.deepcopy((saying, paper))
                for _ in range(3):
                    self.right(plan, saying, word, paper)
                    self.wrong(plan, saying, word, paper[:1])
                self.assertEqual((plan, saying, paper), (before,) + kept)

    def test_another_answer(self):
        plan = read_plan("family f 1 r")
        for saying, paper in [(("never", NOT_TRUE), ("all", [begin(plan)])),
                              (("always can", TRUE), ("ways", [(begin(plan), 0)])),
                              (("at last", TRUE), ("lots", [begin(plan)], [], []))]:
            self.right(plan, saying, "yes", paper)
            for word in ("no", "", "Yes", "all"):
                self.wrong(plan, saying, word, paper)
        for saying, paper in [(("never", TRUE), ("run", [])), (("always can", NOT_TRUE), ("shut", [], [begin(plan)])),
                              (("at last", NOT_TRUE), ("end", []))]:
            self.right(plan, saying, "no", paper)
            for word in ("yes", "", "No", "run"):
                self.wrong(plan, saying, word, paper)

    def test_papers_of_another_kind(self):
        plan = read_plan("family f 1 r s\nstep a: at r; go s\nstep b: at s; go s")
        r, s = room(0), room(1)
        papers = {"all": ("all", [r, s]), "folded": ("folded", [r, s]),
        "thinned": ("thinned", [(r, None, 0), (s, None, 0)]), "run": ("run", deeds_of("a")),
                  "lots": ("lots", [r, s], [r], [([0], None, [])]), "round": ("round", deeds_of("a"), deeds_of("b")),
                  "ways": ("ways", [(r, 1), (s, 0)]),
                  "shut": ("shut", deeds_of("a"), [s])}
        for saying, word, names in [(("never", NOT_TRUE), "yes", "all folded thinned"),
                                    (("never", some("f", "s")), "no", "run"),
                                    (("at last", some("f", "s")), "yes", "lots"),
                                    (("at last", NOT_TRUE), "no", "round"),
                                    (("always can", some("f", "s")), "yes", "ways"),
                                    (("always can", some("f", "r")), "no", "shut")]:
            for name, paper in papers.items():
                self.assertIs(judge(plan, saying, word, paper), name in names.split(), (saying, name))

    def test_marks_that_are_longer_than_names(self):
        plan = read_plan(RESEND)
        sent = plan[0][0][5][0]
        plan[0][0][5][0] = sent[:5] + ([("m" * 12,) + sent[5][0][1:]],) + sent[6:]
        word, paper = answer(plan, ("never", some("g", "sure")), "all")
        self.assertEqual(word, "yes")
        self.right(plan, ("never", some("g", "sure")), "yes", paper)

    def test_walked_standings_are_those_of_the_run(self):
        plan = read_plan(LOCK)
        word, paper = answer(plan, ("never", some("f", "in")), "all")
        self.assertEqual(walked(plan, paper[1])[-1][0][paper[1][-1][1]][0], 2)
        self.right(plan, ("never", some("f", "in")), "no", paper)


if __name__ == "__main__":
    unittest.main()
