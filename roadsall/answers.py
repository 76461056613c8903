"""Answers: sayings settled, each with its paper."""

from roadsall.cans import can_answer
from roadsall.facts import speaks_of_knowing
from roadsall.lasting import LASTING, lasting_answer
from roadsall.safety import SAFETY, safety_answer
from roadsall.webs import Web


def answer(plan, saying, way):
    web = Web(plan)
    word, paper = plain_answer(web, saying, way)
    if speaks_of_knowing(saying):
        paper = ("whole", web.rows, paper)
    return (word, paper)


def plain_answer(web, saying, way):
    if saying[0] in SAFETY:
        return safety_answer(web, saying, way)
    if saying[0] in LASTING:
        return lasting_answer(web, saying)
    return can_answer(web, saying[1])
