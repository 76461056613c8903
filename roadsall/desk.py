"""The desk: a plan and the last answer, kept and asked by texts."""

from roadsall.answers import answer
from roadsall.errors import NoRow, NoThing
from roadsall.facts import comings, truths
from roadsall.goers import folded
from roadsall.judge import judge
from roadsall.plans import read_plan
from roadsall.standings import begin, deeds
from roadsall.texts import check_saying, read_saying

PLAN_ROW = "plan\n"
ASK_ROW = "ask "
WORDS_OF_A_PLAN = ("standings", "folded", "dry", "deeds")
WORDS_OF_AN_ANSWER = ("paper", "judge")


class Desk:
    def __init__(self):
        self.plan = None
        self.last = None

    def say(self, text):
        if text.startswith(PLAN_ROW):
            return self.keep_plan(text[len(PLAN_ROW):])
        asks = text.startswith(ASK_ROW)
        if not asks and text not in WORDS_OF_A_PLAN and text not in WORDS_OF_AN_ANSWER:
            raise NoRow()
        # With no plan there is no answer either.
        if self.plan is None or text in WORDS_OF_AN_ANSWER and self.last is None:
            raise NoThing()
        if asks:
            return self.keep_answer(text[len(ASK_ROW):])
        if text in WORDS_OF_A_PLAN:
            return told_of_plan(self.plan, text)
        return told_of_answer(self.plan, self.last, text)

    def keep_plan(self, text):
        self.plan = read_plan(text)
        self.last = None
        return "ok"

    def keep_answer(self, text):
        way, saying = way_and_saying(text)
        check_saying(self.plan, saying)
        word, paper = answer(self.plan, saying, way)
        self.last = (saying, word, paper)
        return word


def way_and_saying(text):
    first, blank, rest = text.partition(" ")
    if first in ("folded", "thinned"):
        return (first, read_saying(rest))
    return ("all", read_saying(text))


def told_of_plan(plan, word):
    if word == "standings":
        return str(len(comings(plan)))
    if word == "folded":
        return str(len(folded(plan)))
    if word == "dry":
        return str(truths(plan, ("dry",), comings(plan)).count(True))
    return "; ".join([shown_deed(deed) for deed in deeds(plan, begin(plan))])


def shown_deed(deed):
    # No letters are there at the beginning, so each of its deeds is a step that takes none.
    words = ["step", str(deed[1]), deed[2]]
    if len(deed[4]) > 0:
        words.append("to")
        words.extend([str(hand) for hand in deed[4]])
    return " ".join(words)


def told_of_answer(plan, last, word):
    saying, told, paper = last
    if word == "paper":
        name = paper[0]
        many = len(paper[1])
        return f"{name} {many}"
    return "right" if judge(plan, saying, told, paper) else "wrong"
