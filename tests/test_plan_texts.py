import copy
import unittest

from roadsall.errors import NoLine, NoPlan
from roadsall.plans import check_plan, read_plan, shown_plan
from samples import SMALL_TEXT, plain_family, small_plan, step

LINES = SMALL_TEXT.split("\n")
HEAD = "family f 1 r s\ncell c 0 9 0\ncell to 0 9 0\nwho w\n"
TAIL = "\nfamily g 2 q\nroad f g row 1\nroad g f heap 2"


def line_of(text):
    try:
        read_plan(text)
    except NoLine as error:
        return error.line
    except NoPlan:
        return "no plan"
    return None


def with_line(number, line):
    return "\n".join(LINES[:number] + [line] + LINES[number + 1:])


def step_of(line):
    return read_plan(HEAD + line + TAIL)[0][0][5][0]


class SmallTest(unittest.TestCase):
    def test_read(self):
        self.assertEqual(read_plan(SMALL_TEXT), small_plan())

    def test_shown(self):
        self.assertEqual(shown_plan(small_plan()), SMALL_TEXT)

    def test_nothing_handed_in_is_changed(self):
        plan = small_plan()
        before = copy.deepcopy(plan)
        shown_plan(plan)
        check_plan(plan)
        self.assertEqual(plan, before)

    def test_what_is_read_is_the_askers_own(self):
        plan = read_plan(SMALL_TEXT)
        plan[0][0][2].append("more")
        plan[0][0][3].clear()
        plan[0][1][4].clear()
        plan[0][0][5][0][4].clear()
        plan[0][0][5][0][5].clear()
        plan[0].pop()
        plan[1].clear()
        plan[2].clear()
        self.assertEqual(read_plan(SMALL_TEXT), small_plan())

    def test_kinds(self):
        families, roads, wishes = read_plan("family f 1 r\nstep s: at r; go r\nroad f f row 1")
        self.assertEqual(families, [("f", 1, ["r"], [], [], [("s", "r", ("true",), None, [], [], "r")])])
        self.assertEqual(roads, [("f", "f", "row", 1, False, False)])
        self.assertIs(roads[0][4], False)
        self.assertEqual(wishes, [])


class RoundTest(unittest.TestCase):
    def same_again(self, plan):
        check_plan(plan)
        self.assertEqual(read_plan(shown_plan(plan)), plan)

    def test_each_part_there_and_lacking(self):
        loop = [("f", "f", "row", 1, False, False)]
        for when in ("true", "true and true", "not true", "c = 1 or [c < 2 or c > 3]"):
            for take in (None, ("m", "f", "", ""), ("m", "f", "c", ""), ("m", "f", "", "w"), ("m", "f", "c", "w")):
                for changes in ([], [("d", "d + 1")], [("d", "2 - (c - d)"), ("e", "0")]):
                    for sends in ([], [("m", "c * (d + 1)", "who", "w")],
                                  [("m", "0", "all", "f"), ("n", "e", "any", "f"), ("m", "1", "who", "w")]):
                        made = step("x", "r", "s", when, take, changes, sends)
                        cells = [(name, -1, 5, 0) for name in ("c", "d", "e")]
                        self.same_again(([plain_family("f", 2, ["r", "s"], cells, ["w"], [made])], loop, []))

    def test_roads_and_numbers(self):
        for kind in ("row", "heap"):
            for room in (1, 2, 3):
                for loses in (True, False):
                    for doubles in (True, False):
                        self.same_again(([plain_family()], [("f", "f", kind, room, loses, doubles)], []))
        for low, high, start in [(-999, -990, -995), (990, 999, 999), (0, 0, 0), (-1, 1, 0)]:
            self.same_again(([plain_family(cells=[("c", low, high, start)])], [], []))

    def test_at_the_bounds(self):
        rooms = ["abcdefghi" + end for end in "stuvwxyz"]
        steps = [step("step" + end, rooms[0], rooms[7]) for end in "abcdefgh"]
        families = [plain_family(name, many, rooms, [(cell, 0, 9, 9) for cell in "abc"], ["d", "e"], steps)
                    for name, many in [("f", 2), ("g", 1), ("h", 1), ("i", 1)]]
        roads = [(one, other, "heap", 3, True, True) for one in "fg" for other in "fghi"]
        wishes = [("weak", "f", "stepa"), ("strong", "i", "steph")] * 3
        self.same_again((families, roads, wishes))

    def test_names_like_the_words_of_lines(self):
        made = step("step", "at", "go", "to = by", ("from", "take", "by", "to"), [("into", "it")],
                    [("to", "into + into", "who", "to"), ("send", "into", "all", "take")])
        family = plain_family("take", 2, ["at", "go"], [("by", 0, 9, 0), ("into", 0, 9, 0)], ["to"], [made])
        plan = ([family], [("take", "take", "row", 1, False, False)], [("weak", "take", "step")])
        self.assertEqual(line_of(shown_plan(plan)), "no plan")
        made = made[:2] + (("true",),) + made[3:]
        self.same_again(([family[:5] + ([made],)], plan[1], plan[2]))


class LineTest(unittest.TestCase):
    def refused_at(self, number, lines):
        for line in lines:
            self.assertEqual(line_of(with_line(number, line)), number, line)

    def test_no_signs_and_empty_lines(self):
        self.assertEqual(line_of(""), 0)
        self.assertEqual(line_of("\n"), 0)
        self.assertEqual(line_of(SMALL_TEXT + "\n"), len(LINES))
        self.assertEqual(line_of("\n" + SMALL_TEXT), 0)
        self.assertEqual(line_of(with_line(3, "")), 3)
        self.assertEqual(line_of(" "), 0)

    def test_family_lines(self):
        self.refused_at(0, [
            "family", "family asker", "family asker 2", "family asker 2 ", "family asker 2 idle ", " family asker 2 idle",
            "family  asker 2 idle", "family asker  2 idle", "family asker 2  idle", "family asker 2 idle  waiting",
            "family Asker 2 idle", "family or 2 idle", "family abcdefghijk 2 idle", "family asker two idle",
            "family asker 02 idle", "family asker 00 idle", "family asker -1 idle", "family asker 1234 idle",
            "family asker 2 idle Waiting", "family asker 2 true", "family asker 2 idle;", "families asker 2 idle",
            "Family asker 2 idle", "family asker +2 idle", "hand asker 2 idle",
        ])

    def test_cell_lines(self):
        self.refused_at(1, [
            "cell", "cell tries", "cell tries 0 3", "cell tries 0 3 0 0", "cell tries 0 3 0 ", "cell  tries 0 3 0",
            "cell tries  0 3 0", "cell tries -0 3 0", "cell tries 0 3 -0", "cell tries 00 3 0", "cell tries 0 03 0",
            "cell tries 0 1000 0", "cell tries -1000 3 0", "cell tries 0 3 -01", "cell tries 0 3 +0", "cell tries 0 3 a",
            "cell tries 0 3 --1", "cell tries 0 3 -", "cell tries 0 - 3", "cell not 0 3 0", "cell tRies 0 3 0",
            "cell abcdefghijk 0 3 0", "cell tries 0 3 \u0663",
        ])
        self.assertEqual(line_of("family f 1 r\ncell c -999 -990 -999"), None)
        self.assertEqual(line_of("family f 1 r\ncell c 990 999 999"), None)

    def test_who_lines(self):
        self.refused_at(7, ["who", "who ", "who  guest", "who guest ", "who guest one", "who Guest", "who and", "who 1"])

    def test_road_lines(self):
        self.refused_at(11, [
            "road", "road asker server row", "road asker server", "road asker server row 2 ", "road asker server  row 2",
            "road asker server stack 2", "road asker server Row 2", "road asker server row two",
            "road asker server row 02", "road asker server row -2", "road asker server row 1000",
            "road asker server row 2 doubles loses", "road asker server row 2 loses loses",
            "road asker server row 2 loses doubles more", "road asker server row 2  loses", "road asker server row 2 lose",
            "road asker server row 2 loses ", "road asker true row 2", "road 1 server row 2",
        ])

    def test_wish_lines(self):
        self.refused_at(13, ["wish", "wish weak server", "wish weak server tell ", "wish weak server tell more",
                             "wish Weak server tell", "wish fair server tell", "wish weak  server tell",
                             "wish weak server not", "wish weak Server tell"])

    def test_lines_out_of_their_place(self):
        family, cell, who, made = "family f 1 r", "cell c 0 1 0", "who w", "step s: at r; go r"
        road, wish = "road f f row 1", "wish weak f s"
        self.assertIsNone(line_of("\n".join([family, cell, who, made, road, wish])))
        for lines, number in [
            ([cell], 0), ([who, family], 0), ([made, family], 0), ([family, who, cell], 2), ([family, made, cell], 2),
            ([family, made, who], 2), ([family, made, who, cell], 2), ([family, road, cell], 2),
            ([family, made, road, made], 3), ([family, made, wish, road], 3), ([family, road, "family g 1 r"], 2),
            ([family, made, wish, "family g 1 r"], 3), ([family, made, wish, who], 3),
            ([family, made, "family g 1 r", who, cell], 4), ([family, "family g 1 r", road, "step t: at r; go r"], 3),
        ]:
            self.assertEqual(line_of("\n".join(lines)), number, lines)

    def test_the_first_wrong_line_is_told(self):
        self.assertEqual(line_of("family f 1 r\ncell c 0 1 -0\nwho 1\n"), 1)
        self.assertEqual(line_of("family f 1 r\nroad f f row 1\ncell c 0 1 0\nroad x"), 2)

    def test_lines_ahead_of_the_plan(self):
        # The plan is wrong from its first line on, but a wrong line is looked for first.
        self.assertEqual(line_of("family f 9 r r\ncell it 5 1 0\nroad f x row 9\nwish weak f"), 3)

    def test_good_lines_but_no_plan(self):
        for text in ["family f 0 r", "family f 6 r", "family f 1 r r", "family f 1 a b c d e f g h i",
                     "family f 1 r\nfamily f 1 r", "family f 1 r\ncell it 0 1 0", "family f 1 r\ncell c 0 1 2",
                     "family f 1 r\ncell c 0 10 2", "family f 1 r\ncell c 0 1 0\nwho c", "family f 1 r\nroad f g row 1",
                     "family f 1 r\nroad f f row 0", "family f 1 r\nroad f f heap 4", "family f 1 r\nroad f f row 999",
                     "family f 1 r\nroad f f row 1\nroad f f row 1", "family f 1 r\nwish weak f s",
                     "family f 1 r\nstep s: at x; go r", "family f 1 r\nstep s: at r; when c = 1; go r",
                     "family f 1 r\nstep s: at r; take m from f; go r", "family f 1 r\nstep s: at r; set c 1; go r",
                     "family f 1 r\nstep s: at r; send m 1 to all f; go r", "road f f row 1", "wish weak f s",
                     "family f 1 r\nstep s: at r; send m 1 to who x; go r",
                     "family f 1 r\nwho w\nstep s: at r; send m it to who w; go r"]:
            self.assertEqual(line_of(text), "no plan", text)


class StepLineTest(unittest.TestCase):
    def refused(self, lines):
        for line in lines:
            self.assertEqual(line_of(HEAD + line + TAIL), 4, line)

    def test_the_least_step(self):
        self.assertEqual(step_of("step x: at r; go s"), step("x", "r", "s"))

    def test_frames_that_are_wrong(self):
        self.refused([
            "step", "step x", "step x:", "step x: ", "step x: at r", "step x: go s", "step x: at r;", "step x: at r; ",
            "step x:at r; go s", "step x : at r; go s", "step x:  at r; go s", "step  x: at r; go s",
            "step X: at r; go s", "step or: at r; go s", "step : at r; go s", "step: at r; go s",
            "step x y: at r; go s", "step x: at r;go s", "step x: at r;  go s", "step x: at r ; go s",
            "step x: at  r; go s", "step x: at r; go s ", "step x: at r; go  s", "step x: at r; go s;",
            "step x: at r; go s; ", "step x: at r; ; go s", "step x: at R; go s", "step x: at r; go and",
            "step x: at; go s", "step x: at r; go", "step x: go s; at r", "step x: at r s; go s", "step x: at r; goes s",
            "step abcdefghijk: at r; go s", "step x: at r; go s; go s", "step x: at r; at r; go s", "step x:: at r; go s",
        ])

    def test_parts_out_of_their_order(self):
        when, take, change, send = "when c = 1", "take m from g", "set c 1", "send m 1 to all g"
        self.assertIsNone(line_of(HEAD + f"step x: at r; {when}; {take}; {change}; {send}; go s" + TAIL))
        for parts in [[take, when], [change, when], [send, when], [change, take], [send, take], [send, change],
                      [when, when], [take, take], [when, take, change, send, change], [send, change, send]]:
            self.refused(["step x: at r; " + "; ".join(parts) + "; go s"])

    def test_conditions(self):
        for text in ("c=1", " c = 1", "c = 1 ", "   c  =  1   ", "[c = 1]"):
            self.assertEqual(step_of(f"step x: at r; when {text}; go s"), step("x", "r", "s", "c = 1"), text)
        for text in ("true and true", "not true"):
            self.assertEqual(step_of(f"step x: at r; when {text}; go s"), step("x", "r", "s", text), text)
        self.refused([f"step x: at r; {part}; go s" for part in
                      ("when true", "when [true]", "when  true ", "when [ [true] ]", "when", "when ", "when c",
                       "when c = ", "when[c = 1]", "when c = 1;", "when c == 1", "When c = 1", "when c = 01",
                       " when c = 1", "when c = 1 or", "if c = 1", "when c = 1000")])

    def test_takes(self):
        for text, take in [("", ("m", "g", "", "")), (" into c", ("m", "g", "c", "")), (" by w", ("m", "g", "", "w")),
                           (" into c by w", ("m", "g", "c", "w"))]:
            self.assertEqual(step_of(f"step x: at r; take m from g{text}; go s"), step("x", "r", "s", take=take))
        self.refused([f"step x: at r; {part}; go s" for part in
                      ("take", "take m", "take m from", "take m g", "take m of g", "take M from g", "take true from g",
                       "take m from G", "take m from not", "take  m from g", "take m  from g", "take m from  g",
                       "take m from g ", "take m from g into", "take m from g into ", "take m from g by",
                       "take m from g by w into c", "take m from g into c into c", "take m from g by w by w",
                       "take m from g into c by", "take m from g  into c", "take m from g into  c",
                       "take m from g into c  by w", "take m from g into c by w ", "take m from g c w",
                       "take m from g into or", "take m from g by W", "take m from g into c w")])

    def test_changes(self):
        for text in ("c+1", "  c  + 1  ", "(c + 1)"):
            self.assertEqual(step_of(f"step x: at r; set c {text}; go s"), step("x", "r", "s", changes=[("c", "c + 1")]))
        self.assertEqual(step_of("step x: at r; set to to; set c to * 2; go s"),
                         step("x", "r", "s", changes=[("to", "to"), ("c", "to * 2")]))
        self.refused([f"step x: at r; {part}; go s" for part in
                      ("set", "set ", "set c", "set c ", "set  c 1", "set c -1", "set C 1", "set and 1", "set c 1 1",
                       "set c(1)", "set c 1000", "set c 01", "set c = 1", "set c true", "Set c 1", "set c 1;",
                       "set abcdefghijk 1")])

    def test_sends(self):
        for text in ("c+1", "  c  + 1  ", "(c + 1)"):
            self.assertEqual(step_of(f"step x: at r; send m {text} to all g; go s"),
                             step("x", "r", "s", sends=[("m", "c + 1", "all", "g")]))
        for way, name in [("who", "w"), ("all", "g"), ("any", "g")]:
            self.assertEqual(step_of(f"step x: at r; send m 0 to {way} {name}; go s"),
                             step("x", "r", "s", sends=[("m", "0", way, name)]))
        self.refused([f"step x: at r; {part}; go s" for part in
                      ("send", "send m", "send m 1", "send m 1 to", "send m 1 to all", "send m 1 to all ",
                       "send m 1 to g", "send m to all g", "send m  to all g", "send m 1 to some g", "send m 1 to All g",
                       "send m 1 to all G", "send m 1 to all or", "send m 1 to  all g", "send m 1 to all  g",
                       "send m 1 to all g ", "send  m 1 to all g", "send M 1 to all g", "send not 1 to all g",
                       "send m 1 2 to all g", "send m -1 to all g", "send m 1000 to all g", "send m 1to all g",
                       "send m(1) to all g", "send m (1)to all g", "send 1 to all g", "send m 1 to all g to all g",
                       "send m 1 to all g h")])

    def test_a_sum_ends_ahead_of_the_last_to(self):
        for text in ("to", "to + to", "c * to", " to "):
            self.assertEqual(step_of(f"step x: at r; send m {text} to all g; go s"),
                             step("x", "r", "s", sends=[("m", text, "all", "g")]))
        self.assertEqual(step_of("step x: at r; send to to to who w; go s"),
                         step("x", "r", "s", sends=[("to", "to", "who", "w")]))


if __name__ == "__main__":
    unittest.main()
