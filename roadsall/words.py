"""Sums and conditions: their trees, their texts and what they come to."""

from roadsall.errors import NoText
from roadsall.names import FIGURES, LETTERS, MOST_FIGURES, MOST_LETTERS, WORDS

COMPARISONS = ("=", "!=", "<", "<=", ">", ">=")
SUM_KINDS = ("number", "name", "plus", "minus", "times")
KINDS = {"or": "or", "and": "and", "+": "plus", "-": "minus", "*": "times"}
SIGNS = {"or": "or", "and": "and", "plus": "+", "minus": "-", "times": "*"}

# How firmly a mark holds what stands beside it; nothing is put together across a bracket.
OR_LEVEL = 1
IS_LEVEL = 4
PLUS_LEVEL = 5
MARK_LEVELS = {
    "(": 0, "[": 0, "or": 1, "and": 2, "not": 3, "=": 4, "!=": 4, "<": 4, "<=": 4, ">": 4, ">=": 4,
    "+": 5, "-": 5, "*": 6,
}
TREE_LEVELS = {
    "or": 1, "and": 2, "not": 3, "is": 4, "true": 4, "plus": 5, "minus": 5, "times": 6, "number": 7, "name": 7,
}


class Reader:
    # Brackets may stand thousands deep in a text: what waits for its other side is kept in lists, not in calls.

    def __init__(self, text, wanted):
        self.text = text
        self.spot = 0
        self.sought = wanted
        self.wanted = wanted
        self.trees = []
        self.marks = []

    def read(self):
        self.skip_blanks()
        while self.wanted != "" or self.spot < len(self.text):
            if self.spot == len(self.text):
                raise NoText(self.spot)
            if self.wanted != "":
                self.read_beginning(self.text[self.spot])
            else:
                self.read_behind(self.text[self.spot])
            self.skip_blanks()
        return self.read_end()

    def read_beginning(self, sign):
        if sign in FIGURES:
            self.read_number()
        elif sign in LETTERS:
            self.read_letters()
        elif sign == "(":
            self.push("(", "factor")
        elif sign == "[" and self.wanted == "part":
            self.push("[", "part")
        else:
            raise NoText(self.spot)

    def read_number(self):
        if self.touches():
            raise NoText(self.spot)
        figures = self.run_of(FIGURES)
        length = 1 if figures[0] == "0" else min(len(figures), MOST_FIGURES)
        if length < len(figures):
            raise NoText(self.spot + length)
        self.keep(("number", int(figures)), length)

    def read_letters(self):
        letters = self.run_of(LETTERS)
        if len(letters) > MOST_LETTERS:
            raise NoText(self.spot + MOST_LETTERS)
        if letters == "true" and self.wanted == "part":
            self.keep(("true",), len(letters))
        elif letters == "not" and self.wanted == "part":
            self.push("not", "part")
        elif letters in WORDS:
            # A longer name may begin with the word, so the word itself still counts.
            raise NoText(self.spot + len(letters))
        else:
            self.keep(("name", letters), len(letters))

    def read_behind(self, sign):
        if sign in "+-*":
            self.read_sign(sign)
        elif sign in "=!<>":
            self.read_comparison(sign)
        elif sign in LETTERS:
            self.read_joint("and" if sign == "a" else "or")
        elif sign == ")":
            self.read_round_end()
        elif sign == "]":
            self.read_square_end()
        else:
            raise NoText(self.spot)

    def read_sign(self, sign):
        if not self.has_sum():
            raise NoText(self.spot)
        self.fold(MARK_LEVELS[sign])
        self.push(sign, "factor")

    def read_comparison(self, sign):
        self.fold(PLUS_LEVEL)
        mark = self.last_mark()
        if self.sought == "factor" or not self.has_sum() or mark == "(" or mark in COMPARISONS:
            raise NoText(self.spot)
        word = self.text[self.spot:self.spot + 2]
        if word not in COMPARISONS:
            word = sign
        if word not in COMPARISONS:
            raise NoText(self.spot + 1)
        self.push(word, "factor")

    def read_joint(self, word):
        self.fold(IS_LEVEL)
        if self.touches() or self.has_sum():
            raise NoText(self.spot)
        letters = self.run_of(LETTERS)
        if letters != word:
            raise NoText(self.spot + shared_length(letters, word))
        self.fold(MARK_LEVELS[word])
        self.push(word, "part")

    def read_round_end(self):
        self.fold(PLUS_LEVEL)
        if self.last_mark() != "(":
            raise NoText(self.spot)
        self.marks.pop()
        self.spot += 1

    def read_square_end(self):
        self.fold(IS_LEVEL)
        if self.has_sum():
            raise NoText(self.spot)
        self.fold(OR_LEVEL)
        if self.last_mark() != "[":
            raise NoText(self.spot)
        self.marks.pop()
        self.spot += 1

    def read_end(self):
        self.fold(IS_LEVEL)
        if self.sought == "part" and self.has_sum():
            raise NoText(self.spot)
        self.fold(OR_LEVEL)
        if self.last_mark() != "":
            raise NoText(self.spot)
        return self.trees[0]

    def skip_blanks(self):
        self.spot += len(self.run_of(" "))

    def run_of(self, signs):
        end = self.spot
        while end < len(self.text) and self.text[end] in signs:
            end += 1
        return self.text[self.spot:end]

    def touches(self):
        return self.spot > 0 and self.text[self.spot - 1] in LETTERS + FIGURES

    def has_sum(self):
        return self.trees[-1][0] in SUM_KINDS

    def last_mark(self):
        return self.marks[-1] if self.marks else ""

    def push(self, mark, wanted):
        self.marks.append(mark)
        self.spot += len(mark)
        self.wanted = wanted

    def keep(self, tree, length):
        self.trees.append(tree)
        self.spot += length
        self.wanted = ""

    def fold(self, level):
        while self.marks and MARK_LEVELS[self.marks[-1]] >= level:
            mark = self.marks.pop()
            other = self.trees.pop()
            if mark == "not":
                self.trees.append(("not", other))
                continue
            one = self.trees.pop()
            if mark in COMPARISONS:
                self.trees.append(("is", mark, one, other))
            else:
                self.trees.append((KINDS[mark], one, other))


def shared_length(one, other):
    length = 0
    while one[:length + 1] == other[:length + 1] and length < min(len(one), len(other)):
        length += 1
    return length


def read_sum(text):
    return Reader(text, "factor").read()


def read_condition(text):
    return Reader(text, "part").read()


def shown_sum(tree):
    kind = tree[0]
    if kind == "number":
        return str(tree[1])
    if kind == "name":
        return tree[1]
    return shown_pair(tree)


def shown_condition(tree):
    kind = tree[0]
    if kind == "true":
        return "true"
    if kind == "not":
        part = shown_from(tree[1], TREE_LEVELS["not"])
        return f"not {part}"
    if kind == "is":
        word = tree[1]
        one = shown_sum(tree[2])
        other = shown_sum(tree[3])
        return f"{one} {word} {other}"
    return shown_pair(tree)


def shown_pair(tree):
    level = TREE_LEVELS[tree[0]]
    sign = SIGNS[tree[0]]
    one = shown_from(tree[1], level)
    # The left side is put together first, so on the right the same level needs its brackets.
    other = shown_from(tree[2], level + 1)
    return f"{one} {sign} {other}"


def shown_from(tree, level):
    bare = TREE_LEVELS[tree[0]] >= level
    if tree[0] in SUM_KINDS:
        text = shown_sum(tree)
        return text if bare else f"({text})"
    text = shown_condition(tree)
    return text if bare else f"[{text}]"


def value_of(tree, values):
    kind = tree[0]
    if kind == "number":
        return tree[1]
    if kind == "name":
        return values[tree[1]]
    one = value_of(tree[1], values)
    other = value_of(tree[2], values)
    if kind == "plus":
        return one + other
    if kind == "minus":
        return one - other
    return one * other


def holds(condition, values):
    kind = condition[0]
    if kind == "true":
        return True
    if kind == "not":
        return not holds(condition[1], values)
    if kind == "and":
        return holds(condition[1], values) and holds(condition[2], values)
    if kind == "or":
        return holds(condition[1], values) or holds(condition[2], values)
    return compared(condition[1], value_of(condition[2], values), value_of(condition[3], values))


def compared(word, one, other):
    if word == "=":
        return one == other
    if word == "!=":
        return one != other
    if word == "<":
        return one < other
    if word == "<=":
        return one <= other
    if word == ">":
        return one > other
    return one >= other


def names_in(tree):
    names = []
    waiting = [tree]
    while waiting:
        part = waiting.pop()
        if part[0] == "name":
            names.append(part[1])
        else:
            waiting.extend([piece for piece in part if isinstance(piece, tuple)])
    return names
