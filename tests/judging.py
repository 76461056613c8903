"""What the tests of the judge share: small plans, and a look at papers by both answers."""

import unittest

from roadsall.judge import judge
from samples import told

TRUE = ("true",)
NOT_TRUE = ("not", TRUE)
# A line of rooms, with a way back from the second alone.
LINE = """family f 1 p q r s
step pq: at p; go q
step qp: at q; go p
step qr: at q; go r
step rs: at r; go s"""
PAIR = "family f 2 r s t\nstep a: at r; go s\nstep b: at s; go t"
OUT = """family f 1 p q out
step there: at p; go q
step back: at q; go p
step leave: at p; go out
step stay: at out; go out"""


def room(*places):
    return (tuple((place, (), ()) for place in places), ())


def deeds_of(*names, hand=0):
    return [told(hand, name) for name in names]


class JudgeCase(unittest.TestCase):
    def right(self, plan, saying, word, *papers):
        for paper in papers:
            self.assertIs(judge(plan, saying, word, paper), True, paper)
            self.assertIs(judge(plan, saying, "no" if word == "yes" else "yes", paper), False, paper)

    def wrong(self, plan, saying, word, *papers):
        for paper in papers:
            self.assertIs(judge(plan, saying, word, paper), False, paper)
