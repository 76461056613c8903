import copy
import unittest

from roadsall.errors import NoPlan
from roadsall.plans import check_plan
from samples import plain_family, small_plan, step

NO_NAMES = ["", "A", "aB", "a1", "a b", "a_b", " a", "a ", "a\n", "abcdefghijk", "or", "and", "not", "true", "\u00e9",
            "a-b", "-", "0"]
NAMES = ["a", "z", "it", "to", "who", "nota", "abcdefghij", "family"]


def letters(many):
    return ["abcdefghijklmnop"[place] for place in range(many)]


class PlanCase(unittest.TestCase):
    def lets_by(self, plan, told=None):
        before = copy.deepcopy(plan)
        self.assertIsNone(check_plan(plan), told)
        self.assertEqual(plan, before)

    def refuses(self, plan, told=None):
        before = copy.deepcopy(plan)
        with self.assertRaises(NoPlan, msg=told):
            check_plan(plan)
        self.assertEqual(plan, before)


class CheckPlanTest(PlanCase):
    def test_ordinary_plans(self):
        self.lets_by(small_plan())
        self.lets_by(([plain_family()], [], []))

    def test_numbers_of_families_and_hands(self):
        for many in (1, 2, 3, 4):
            self.lets_by(([plain_family(name) for name in letters(many)], [], []))
        for many in (0, 5, 6):
            self.refuses(([plain_family(name) for name in letters(many)], [], []))
        self.lets_by(([plain_family("f", 5)], [], []))
        self.lets_by(([plain_family("f", 2), plain_family("g", 3)], [], []))
        self.refuses(([plain_family("f", 6)], [], []))
        self.refuses(([plain_family("f", 3), plain_family("g", 3)], [], []))

    def test_many_is_one_at_least(self):
        for many in (0, -1):
            self.refuses(([plain_family("f", many)], [], []))
            self.refuses(([plain_family("f", 2), plain_family("g", many)], [], []))

    def test_numbers_within_a_family(self):
        def made(rooms=1, cells=0, whos=0, steps=0):
            return ([plain_family("f", 1, letters(rooms), [(name, 0, 0, 0) for name in letters(cells)],
                                  ["w" + name for name in letters(whos)],
                                  [step(name, "a", "a") for name in letters(steps)])], [], [])
        for many in (1, 8):
            self.lets_by(made(rooms=many))
        for many in (0, 9):
            self.refuses(made(rooms=many))
        for many in (0, 3):
            self.lets_by(made(cells=many))
        self.refuses(made(cells=4))
        for many in (0, 2):
            self.lets_by(made(whos=many))
        self.refuses(made(whos=3))
        for many in (0, 8):
            self.lets_by(made(steps=many))
        self.refuses(made(steps=9))
        self.lets_by(made(8, 3, 2, 8))

    def test_numbers_of_roads_and_wishes(self):
        families = [plain_family(name, steps=[step("s", "r", "r")]) for name in letters(3)]
        roads = [(one, other, "row", 1, False, False) for one in letters(3) for other in letters(3)]
        wishes = [("weak", "a", "s")] * 7
        self.lets_by((families, roads[:8], wishes[:6]))
        self.refuses((families, roads, []))
        self.refuses((families, [], wishes))

    def test_names(self):
        for name in NAMES:
            self.named(self.lets_by, name, [name] if name != "it" else [])
        for name in NO_NAMES:
            self.named(self.refuses, name, [name])

    def named(self, judged, name, cell_names):
        other = "x"
        loop = [(other, other, "row", 1, False, False)]
        judged(([plain_family(name)], [], []), ("family", name))
        judged(([plain_family(rooms=["r", name])], [], []), ("room", name))
        judged(([plain_family(whos=[name])], [], []), ("who", name))
        judged(([plain_family(steps=[step(name, "r", "r")])], [], []), ("step", name))
        judged(([plain_family(other, steps=[step("s", "r", "r", take=(name, other, "", ""))])], loop, []), ("take", name))
        judged(([plain_family(other, steps=[step("s", "r", "r", sends=[(name, "0", "all", other)])])], loop, []),
               ("send", name))
        judged(([plain_family(other, whos=["w"], steps=[step("s", "r", "r", sends=[(name, "0", "who", "w")])])], [], []),
               ("send", name))
        for cell in cell_names:
            judged(([plain_family(cells=[(cell, 0, 1, 0)])], [], []), ("cell", cell))

    def test_no_cell_is_called_it(self):
        self.refuses(([plain_family(cells=[("it", 0, 1, 0)])], [], []))

    def test_names_that_come_twice(self):
        self.refuses(([plain_family("f"), plain_family("f")], [], []))
        self.refuses(([plain_family(rooms=["r", "r"])], [], []))
        self.refuses(([plain_family(steps=[step("s", "r", "r"), step("s", "r", "r")])], [], []))
        self.refuses(([plain_family(cells=[("c", 0, 1, 0), ("c", 0, 2, 1)])], [], []))
        self.refuses(([plain_family(whos=["w", "w"])], [], []))
        self.refuses(([plain_family(cells=[("c", 0, 1, 0)], whos=["c"])], [], []))

    def test_names_that_may_come_again_elsewhere(self):
        family = plain_family("x", rooms=["x"], cells=[("x", 0, 1, 0)], steps=[step("x", "x", "x")])
        other = plain_family("y", rooms=["x"], whos=["x"], steps=[step("x", "x", "x")])
        self.lets_by(([family, other], [], []))

    def test_cells(self):
        for low, high, start in [(0, 0, 0), (0, 9, 0), (0, 9, 9), (-9, 0, -4), (-999, -990, -999), (990, 999, 999),
                                 (-3, 5, 0)]:
            self.lets_by(([plain_family(cells=[("c", low, high, start)])], [], []), (low, high, start))
        for low, high, start in [(0, 9, 10), (0, 9, -1), (1, 0, 0), (1, 0, 1), (0, 10, 5), (-5, 5, 0), (2, 3, 1),
                                 (2, 3, 4)]:
            self.refuses(([plain_family(cells=[("c", low, high, start)])], [], []), (low, high, start))
        self.refuses(([plain_family(cells=[("b", 0, 1, 0), ("c", 0, 1, 2)])], [], []))

    def test_roads(self):
        families = [plain_family("a"), plain_family("b", 2)]
        for kind in ("row", "heap"):
            for room in (1, 2, 3):
                for truth in (True, False):
                    self.lets_by((families, [("a", "b", kind, room, truth, not truth)], []))
        self.lets_by((families, [("a", "a", "row", 1, False, False)], []))
        for wrong in [("a", "b", "", 1, False, False), ("a", "b", "Row", 1, False, False),
                      ("a", "b", "stack", 1, False, False), ("a", "b", "row", 0, False, False),
                      ("a", "b", "row", 4, False, False), ("a", "b", "heap", -1, False, False),
                      ("c", "b", "row", 1, False, False), ("a", "c", "row", 1, False, False),
                      ("", "b", "row", 1, False, False)]:
            self.refuses((families, [wrong], []), wrong)

    def test_roads_with_the_same_families(self):
        families = [plain_family("a"), plain_family("b", 2)]
        there, back = ("a", "b", "row", 1, False, False), ("b", "a", "row", 1, False, False)
        self.lets_by((families, [there, back, ("b", "b", "heap", 1, False, False)], []))
        self.refuses((families, [there, back, there], []))
        self.refuses((families, [there, ("a", "b", "heap", 2, True, True)], []))

    def test_wishes(self):
        families = [plain_family("a", steps=[step("s", "r", "r")]), plain_family("b", steps=[step("t", "r", "r")])]
        self.lets_by((families, [], [("weak", "a", "s"), ("strong", "b", "t"), ("weak", "a", "s")]))
        for wrong in [("", "a", "s"), ("Weak", "a", "s"), ("some", "a", "s"), ("weak", "c", "s"), ("strong", "a", "t"),
                      ("weak", "b", "s"), ("weak", "a", ""), ("weak", "", "s")]:
            self.refuses((families, [], [wrong]), wrong)


class CheckStepTest(PlanCase):
    ROADS = [("g", "f", "row", 1, False, False), ("f", "h", "heap", 2, False, False)]

    def plan_with(self, made, roads=None):
        family = plain_family("f", 1, ["r", "s"], [("c", 0, 9, 0), ("d", 0, 9, 0)], ["w", "v"],
                              [step("first", "r", "s"), made])
        others = [plain_family("g", 1, ["q"], [("e", 0, 9, 0)], ["u"]), plain_family("h")]
        return ([family] + others, list(self.ROADS if roads is None else roads), [])

    def good(self, **parts):
        self.lets_by(self.plan_with(step(**{"name": "x", "at": "r", "go": "s", **parts})), parts)

    def wrong(self, **parts):
        self.refuses(self.plan_with(step(**{"name": "x", "at": "r", "go": "s", **parts})), parts)

    def test_rooms_of_a_step(self):
        self.good(at="s", go="r")
        for room in ("q", "", "x", "f"):
            self.wrong(at=room)
            self.wrong(go=room)

    def test_condition_of_a_step(self):
        self.good(when="c = 1 and not [d < c + 2 or true]")
        for text in ("x = 1", "1 = x", "c = 1 and e = 1", "true or not w = 1", "c + d * r < 1"):
            self.wrong(when=text)

    def test_it_is_not_in_the_condition(self):
        self.wrong(when="it = 1")
        self.wrong(when="c = 0 or c < 2 - it", take=("m", "g", "", ""))

    def test_takes(self):
        for cell in ("", "c", "d"):
            for who in ("", "w", "v"):
                self.good(take=("m", "g", cell, who))
        for take in [("m", "g", "x", ""), ("m", "g", "w", ""), ("m", "g", "", "x"), ("m", "g", "", "c"),
                     ("m", "g", "e", ""), ("m", "g", "", "u"), ("m", "x", "", ""), ("m", "", "", ""),
                     ("m", "g", "it", "")]:
            self.wrong(take=take)

    def test_takes_where_no_road_leads(self):
        self.wrong(take=("m", "h", "", ""))
        self.wrong(take=("m", "f", "", ""))
        made = step("x", "r", "s", take=("m", "f", "", ""))
        self.lets_by(self.plan_with(made, self.ROADS + [("f", "f", "row", 1, False, False)]))
        self.refuses(self.plan_with(step("x", "r", "s", take=("m", "g", "", "")), self.ROADS[1:]))

    def test_changes(self):
        self.good(changes=[("c", "c + 1"), ("d", "c * d - 2")])
        self.good(changes=[("d", "it"), ("c", "2 - it")], take=("m", "g", "", ""))
        self.good(changes=[("d", "it + c")], take=("m", "g", "c", "w"))
        for change in [("x", "1"), ("w", "1"), ("", "1"), ("e", "1"), ("it", "1"), ("c", "x"), ("c", "1 + w"),
                       ("c", "d * (1 - e)")]:
            self.wrong(changes=[change])
            self.wrong(changes=[change], take=("m", "g", "", ""))

    def test_a_cell_changed_twice_or_filled_by_the_take(self):
        self.wrong(changes=[("c", "1"), ("c", "1")])
        self.wrong(changes=[("c", "1"), ("d", "1"), ("c", "2")])
        self.wrong(changes=[("c", "1")], take=("m", "g", "c", ""))
        self.wrong(changes=[("d", "1"), ("c", "it")], take=("m", "g", "c", ""))

    def test_it_where_nothing_is_taken(self):
        self.wrong(changes=[("c", "it")])
        self.wrong(changes=[("c", "1 + 2 * it")])
        self.wrong(sends=[("m", "it", "all", "h")])
        self.wrong(sends=[("m", "0", "all", "h"), ("m", "c - it", "who", "w")])
        self.good(sends=[("m", "it", "all", "h"), ("m", "c - it", "who", "w")], take=("m", "g", "c", ""))

    def test_sends(self):
        self.good(sends=[("m", "c", "all", "h"), ("n", "d + 1", "any", "h"), ("m", "0", "who", "w"),
                         ("m", "999", "who", "v")])
        for way, name in [("", "h"), ("some", "h"), ("All", "h"), ("all", "x"), ("any", "x"), ("all", ""), ("who", "x"),
                          ("who", "u"), ("who", "h"), ("who", "c"), ("who", ""), ("all", "w"), ("any", "w"),
                          ("to", "w")]:
            self.wrong(sends=[("m", "0", way, name)])
        for text in ("x", "w", "e", "c + x", "h"):
            self.wrong(sends=[("m", text, "all", "h")])

    def test_sends_where_no_road_leads(self):
        for way in ("all", "any"):
            self.wrong(sends=[("m", "0", way, "g")])
            self.wrong(sends=[("m", "0", way, "f")])
            self.refuses(self.plan_with(step("x", "r", "s", sends=[("m", "0", way, "h")]), self.ROADS[:1]))
        # A send to a who is let by, whatever roads there are.
        self.lets_by(self.plan_with(step("x", "r", "s", sends=[("m", "0", "who", "w")]), []))

    def test_a_wrong_step_behind_good_ones(self):
        plan = small_plan()
        plan[0][1][5].append(step("last", "ready", "idle"))
        self.refuses(plan)


if __name__ == "__main__":
    unittest.main()
