"""A second reading of facts and sayings as texts: one grammar, read from the left, conditions and all."""

import re

PIECE = re.compile(r" *([a-z]+|[0-9]+|!=|<=|>=|[=<>+*()\[\]-])")
FACT_WORDS = """or and not true dry some all each many at when letters to knows never always ahead of last whenever
can""".split()
CONDITION_WORDS = ["or", "and", "not", "true"]


class NoReading(Exception):
    pass


def pieces(text):
    if re.search("[a-z][0-9]|[0-9][a-z]", text):
        raise NoReading()
    found, place = [], 0
    text = text.rstrip(" ")
    while place < len(text):
        match = PIECE.match(text, place)
        if match is None:
            raise NoReading()
        found.append(match.group(1))
        place = match.end()
    return found


class Reading:
    def __init__(self, text):
        self.left = pieces(text)

    def sees(self, *words):
        return self.left[:len(words)] == list(words)

    def skip(self, *words):
        if not self.sees(*words):
            raise NoReading()
        del self.left[:len(words)]

    def skipped(self, *words):
        return self.sees(*words) and self.skip(*words) is None

    def one(self, pattern, but=()):
        if not self.left or not re.fullmatch(pattern, self.left[0]) or self.left[0] in but:
            raise NoReading()
        return self.left.pop(0)

    def name(self):
        return self.one("[a-z]{1,10}", FACT_WORDS)

    def number(self):
        return int(self.one("0|[1-9][0-9]{0,2}"))

    def word(self):
        return self.one("=|!=|<|<=|>|>=")

    def end(self, tree):
        if self.left:
            raise NoReading()
        return tree

    def joined(self, words, part):
        tree = part()
        while self.left and self.left[0] in words:
            kind = {"+": "plus", "-": "minus", "*": "times"}.get(self.left[0], self.left[0])
            self.left.pop(0)
            tree = (kind, tree, part())
        return tree

    def sum(self):
        return self.joined("+-", lambda: self.joined("*", self.factor))

    def factor(self):
        if self.skipped("("):
            tree = self.sum()
            self.skip(")")
            return tree
        if self.left and self.left[0].isdigit():
            return ("number", self.number())
        return ("name", self.one("[a-z]{1,10}", CONDITION_WORDS))

    def condition(self):
        return self.joined(["or"], lambda: self.joined(["and"], self.condition_part))

    def condition_part(self):
        if self.skipped("true"):
            return ("true",)
        if self.skipped("not"):
            return ("not", self.condition_part())
        if self.sees("["):
            return self.bracketed(self.condition)
        one = self.sum()
        word = self.word()
        return ("is", word, one, self.sum())

    def bracketed(self, inner):
        self.skip("[")
        tree = inner()
        self.skip("]")
        return tree

    def fact(self):
        return self.joined(["or"], lambda: self.joined(["and"], self.fact_part))

    def fact_part(self):
        if self.sees("["):
            return self.bracketed(self.fact)
        kind = self.one("true|dry|not|some|all|many|each|letters")
        if kind in ("true", "dry"):
            return (kind,)
        if kind == "not":
            return ("not", self.fact_part())
        family = self.name()
        if kind == "letters":
            self.skip("to")
            other = self.name()
            mark = self.name() if self.left and self.left[0].isalpha() else ""
            return (kind, family, other, mark, self.word(), self.number())
        if kind == "each" or kind == "some" and self.sees("knows"):
            self.skip("knows")
            return (f"{kind} knows", family, self.bracketed(self.fact))
        room = self.name() if self.skipped("at") else ""
        condition = self.bracketed(self.condition) if self.skipped("when") else ("true",)
        part = (kind, family, room, condition)
        return part + (self.word(), self.number()) if kind == "many" else part

    def saying(self):
        for words in [("never",), ("always", "can"), ("always",), ("at", "last")]:
            if self.skipped(*words):
                return (" ".join(words), self.fact())
        kind, between = ("whenever", ("at", "last")) if self.skipped("whenever") else ("ahead", ("ahead", "of"))
        one = self.bracketed(self.fact)
        self.skip(*between)
        return (kind, one, self.bracketed(self.fact))


def read_or_none(text, what):
    """The tree, or None for a text that is none; what is "fact" or "saying"."""
    try:
        reading = Reading(text)
        return reading.end(reading.fact() if what == "fact" else reading.saying())
    except NoReading:
        return None
