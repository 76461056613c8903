import itertools
import unittest

from roadsall.errors import NoText
from roadsall.words import (
    compared, holds, read_condition, read_sum, shown_condition, shown_sum, value_of,
)

A, B, C = ("name", "a"), ("name", "b"), ("name", "c")
ONE, TWO = ("number", 1), ("number", 2)
P, Q, R = ("is", "=", A, ONE), ("is", "<", B, TWO), ("is", ">=", C, A)
TRUE = ("true",)
COMPARISONS = ["=", "!=", "<", "<=", ">", ">="]


def place_of(reader, text):
    try:
        reader(text)
    except NoText as error:
        return error.place
    return None


class ReadSumTest(unittest.TestCase):
    def reads(self, rows):
        for text, tree in rows:
            self.assertEqual(read_sum(text), tree, text)

    def test_numbers(self):
        self.reads([("0", ("number", 0)), ("7", ("number", 7)), ("42", ("number", 42)), ("999", ("number", 999)),
                    ("100", ("number", 100))])

    def test_names(self):
        self.reads([("a", A), ("it", ("name", "it")), ("abcdefghij", ("name", "abcdefghij")),
                    ("zzzzzzzzzz", ("name", "zzzzzzzzzz"))])

    def test_words_within_longer_runs_are_names(self):
        self.reads([(word, ("name", word)) for word in
                    ("ora", "xor", "andy", "band", "nota", "knot", "truer", "untrue", "ornot", "trueandnot")])

    def test_further_left_is_put_together_first(self):
        self.reads([
            ("a - b - c", ("minus", ("minus", A, B), C)),
            ("a + b - c", ("minus", ("plus", A, B), C)),
            ("a - b + c", ("plus", ("minus", A, B), C)),
            ("a * b * c", ("times", ("times", A, B), C)),
        ])

    def test_times_holds_firmer(self):
        self.reads([
            ("a + b * c", ("plus", A, ("times", B, C))),
            ("a * b + c", ("plus", ("times", A, B), C)),
            ("a * b - b * c", ("minus", ("times", A, B), ("times", B, C))),
            ("a - b * c * a", ("minus", A, ("times", ("times", B, C), A))),
        ])

    def test_round_brackets(self):
        self.reads([
            ("a - (b - c)", ("minus", A, ("minus", B, C))),
            ("(a + b) * c", ("times", ("plus", A, B), C)),
            ("a * (b * c)", ("times", A, ("times", B, C))),
            ("((a))", A),
            ("(a) - (b) - (c)", ("minus", ("minus", A, B), C)),
            ("(a * b) + c", ("plus", ("times", A, B), C)),
        ])

    def test_blanks_fewer_and_more(self):
        tree = ("times", ("plus", A, ONE), ("minus", B, TWO))
        self.reads([(text, tree) for text in
                    ("(a+1)*(b-2)", " ( a  +  1 )  *  ( b - 2 ) ", "(a +1)* (b- 2)", "   (a + 1) * (b - 2)")])

    def test_thousands_of_brackets(self):
        self.assertEqual(read_sum("(" * 2500 + "a" + ")" * 2500), A)
        self.assertEqual(place_of(read_sum, "(" * 6000), 6000)
        self.assertEqual(place_of(read_sum, "(" * 2500 + "a" + ")" * 2501), 5001)

    def refuses(self, rows):
        for text, place in rows:
            self.assertEqual(place_of(read_sum, text), place, text)

    def test_only_lacking_something(self):
        self.refuses([(text, len(text)) for text in
                      ("", " ", "   ", "a +", "a + ", "a *", "a - ( ", "(", "(a", "(a + 1", "((a)", "a * (b + (c)")])

    def test_wrong_at_the_beginning(self):
        self.refuses([(text, 0) for text in
                      ("+ a", "-1", "*", ")", "[a]", "]", "=", "A", "?", "_a", "\na", "a\n"[1:], ";")])
        self.refuses([("  -1", 2), (" )", 1)])

    def test_wrong_in_the_midst(self):
        self.refuses([
            ("a b", 2), ("a 1", 2), ("1 a", 2), ("1 2", 2), ("a1", 1), ("1a", 1), ("a + + b", 4), ("a + )", 4),
            ("a)", 1), ("(a))", 3), ("()", 1), ("(a]", 2), ("a = b", 2), ("a or b", 2), ("a(b)", 1), ("(a)b", 3),
            ("(a)(b)", 3), ("aB", 1), ("a?", 1), ("a + [b]", 4), ("a --b", 3), ("a + b !", 6), ("a\n", 1), ("a\t", 1),
        ])

    def test_numbers_that_are_none(self):
        self.refuses([("00", 1), ("01", 1), ("007", 1), ("1234", 3), ("1000", 3), ("a + 01", 5), ("a * 1234", 7),
                      ("12 34", 3), ("0 1", 2)])

    def test_names_that_are_none(self):
        self.refuses([("abcdefghijk", 10), ("abcdefghijklmno", 10), ("a + abcdefghijk + b", 14)])

    def test_words_are_no_names(self):
        # A longer name might begin with the word, so only what stands behind it is too much.
        self.refuses([("or", 2), ("and", 3), ("not", 3), ("true", 4), ("or ", 2), ("true + 1", 4), ("a + and", 7),
                      ("(not)", 4), ("not a", 3), ("a * true)", 8), ("or1", 2)])


class ReadConditionTest(unittest.TestCase):
    def reads(self, rows):
        for text, tree in rows:
            self.assertEqual(read_condition(text), tree, text)

    def test_parts(self):
        self.reads([("true", TRUE), ("not true", ("not", TRUE)), ("[true]", TRUE), ("a = 1", P)])
        for word in COMPARISONS:
            self.reads([(f"a {word} 1", ("is", word, A, ONE)), (f"a{word}1", ("is", word, A, ONE))])

    def test_sums_on_both_sides(self):
        self.reads([
            ("a + b < c * 2", ("is", "<", ("plus", A, B), ("times", C, TWO))),
            ("(a) = (b)", ("is", "=", A, B)),
            ("(a - b) * c != a - b - c", ("is", "!=", ("times", ("minus", A, B), C), ("minus", ("minus", A, B), C))),
            ("1 > 2", ("is", ">", ONE, TWO)),
        ])

    def test_further_left_is_put_together_first(self):
        p, q, r = "a = 1", "b < 2", "c >= a"
        self.reads([
            (f"{p} or {q} or {r}", ("or", ("or", P, Q), R)),
            (f"{p} and {q} and {r}", ("and", ("and", P, Q), R)),
            (f"{p} or {q} and {r}", ("or", P, ("and", Q, R))),
            (f"{p} and {q} or {r}", ("or", ("and", P, Q), R)),
            (f"not {p} and {q}", ("and", ("not", P), Q)),
            (f"not {p} or {q}", ("or", ("not", P), Q)),
            (f"not not {p}", ("not", ("not", P))),
            (f"{p} and not {q}", ("and", P, ("not", Q))),
        ])

    def test_square_brackets(self):
        p, q, r = "a = 1", "b < 2", "c >= a"
        self.reads([
            (f"{p} or [{q} or {r}]", ("or", P, ("or", Q, R))),
            (f"[{p} or {q}] and {r}", ("and", ("or", P, Q), R)),
            (f"not [{p} and {q}]", ("not", ("and", P, Q))),
            (f"not [{p}]", ("not", P)),
            (f"[[{p}]] and [{q}]", ("and", P, Q)),
            (f"[{p} and {q}] or {r}", ("or", ("and", P, Q), R)),
            (f"[not {p}] and {q}", ("and", ("not", P), Q)),
        ])

    def test_blanks_fewer_and_more(self):
        tree = ("and", ("not", P), ("or", TRUE, Q))
        self.reads([(text, tree) for text in
                    ("not a=1 and[true or b<2]", "  not  a  =  1  and  [  true  or  b  <  2  ]  ",
                     "not[a=1]and[true or(b)<2]", "not(a)=(1)and[true or b<2]")])

    def test_words_within_longer_runs_are_names(self):
        self.reads([
            ("nota = andy", ("is", "=", ("name", "nota"), ("name", "andy"))),
            ("truer < ora", ("is", "<", ("name", "truer"), ("name", "ora"))),
            ("xor = 1 or band = 2", ("or", ("is", "=", ("name", "xor"), ONE), ("is", "=", ("name", "band"), TWO))),
        ])

    def test_thousands_of_brackets(self):
        self.assertEqual(read_condition("[" * 1500 + "(" * 1400 + "a" + ")" * 1400 + "=1" + "]" * 1500), P)
        self.assertEqual(place_of(read_condition, "[" * 3000 + "(" * 3000), 6000)
        self.assertEqual(place_of(read_condition, "not " * 1500), 6000)

    def refuses(self, rows):
        for text, place in rows:
            self.assertEqual(place_of(read_condition, text), place, text)

    def test_only_lacking_something(self):
        self.refuses([(text, len(text)) for text in
                      ("", "  ", "a", "a ", "1", "(a", "(a)", "a + ", "a =", "a !", "a < ", "not", "not ", "[", "[true",
                       "[a = 1", "true or", "true and ", "true o", "true a", "true an", "a = b o", "a = b an",
                       "a = (b", "not [a = b", "a = 1 and b", "[a = 1 or true", "tru", "or", "and", "no", "a = not")])

    def test_wrong_at_the_beginning(self):
        self.refuses([(text, 0) for text in ("= 1", "+", "]", ")", "<", "!true", "?", "-1 = a", "*")])

    def test_wrong_in_the_midst(self):
        self.refuses([
            ("a b", 2), ("a = b c", 6), ("a = b = c", 6), ("a < b < c", 6), ("a == b", 3), ("a = = b", 4),
            ("a ! = b", 3), ("a < = b", 4), ("a > = b", 4), ("a <> b", 3), ("a =< b", 3), ("a !< b", 3), ("a =! b", 3),
            ("(a = b)", 3), ("[a]", 2), ("[a] = b", 2), ("a = [b]", 4), ("true = a", 5), ("a = true = b", 8),
            ("[true]]", 6), ("true]", 4), ("true)", 4), ("[true)", 5), ("a = b)", 5), ("a = (b]", 6), ("a and true", 2),
            ("true and or true", 11), ("true + 1", 5), ("[true] + 1", 7), ("[]", 1), ("a = b not", 6),
            ("true not true", 5), ("true true", 5), ("a = 1 + true or", 12), ("(true)", 5), ("not = 1", 4),
            ("(a or", 3), ("a + b or", 6), ("[true] [true]", 7), ("true\n", 4),
            ("[true?", 5), ("[true(", 5), ("[true[", 5), ("[a = 1;", 6), ("[(a]", 3), ("[(a?", 3), ("a = (1?", 6),
        ])

    def test_wrong_words(self):
        self.refuses([
            ("true andy", 8), ("true ort", 7), ("true anx", 7), ("true xor", 5), ("true ox", 6), ("a = b an d", 8),
            ("or = 1", 2), ("and true", 3), ("not or true", 6), ("true or and = 1", 11), ("a = and", 7),
            ("a = b orc = d", 8), ("a = bor c = d", 8), ("true or true an", 15),
        ])

    def test_two_side_by_side_have_a_blank_between(self):
        self.refuses([("a = 1or b = 2", 5), ("a = 1and true", 5), ("not1 = a", 3), ("true or1 = a", 7),
                      ("true and0 = 0", 8), ("true1", 4), ("a1 = 2", 1)])

    def test_numbers_and_names_that_are_none(self):
        self.refuses([("00 = a", 1), ("a = 01", 5), ("a = 1234", 7), ("1234 = a", 3), ("abcdefghijk = 1", 10),
                      ("a = abcdefghijk", 14), ("notnotnotnot = 1", 10)])


class PlaceTest(unittest.TestCase):
    # What the place says, taken at its word: up to it some good text begins so, one sign further none does.
    PIECES = ["", "a", "1", "=1", "r true", "d true", "nd true", "true"]
    ENDS = [piece + round_ends + comparison + square_ends for piece in PIECES
            for round_ends in ("", ")", "))", ")))") for comparison in ("", "=1") for square_ends in ("", "]", "]]", "]]]")]

    def looked_at(self, reader, text):
        place = place_of(reader, text)
        if place is None:
            return
        beginning = text[:place]
        self.assertIn(None, [place_of(reader, beginning + end) for end in self.ENDS], (text, place))
        if place < len(text):
            for end in self.ENDS:
                self.assertEqual(place_of(reader, text[:place + 1] + end), place, (text, end))

    def test_all_short_texts(self):
        for length in range(4):
            for signs in itertools.product("ao1 ([)]=!<+", repeat=length):
                self.looked_at(read_sum, "".join(signs))
                self.looked_at(read_condition, "".join(signs))


class ShownTest(unittest.TestCase):
    def test_sums(self):
        for tree, text in [
            (("number", 0), "0"), (("number", 999), "999"), (A, "a"),
            (("minus", ("minus", A, B), C), "a - b - c"),
            (("minus", A, ("minus", B, C)), "a - (b - c)"),
            (("plus", A, ("plus", B, C)), "a + (b + c)"),
            (("plus", A, ("minus", B, C)), "a + (b - c)"),
            (("times", ("plus", A, B), C), "(a + b) * c"),
            (("times", A, ("plus", B, C)), "a * (b + c)"),
            (("times", A, ("times", B, C)), "a * (b * c)"),
            (("times", ("times", A, B), C), "a * b * c"),
            (("plus", ("times", A, B), ("times", B, C)), "a * b + b * c"),
            (("minus", ("number", 0), ONE), "0 - 1"),
        ]:
            self.assertEqual(shown_sum(tree), text)

    def test_conditions(self):
        p, q, r = "a = 1", "b < 2", "c >= a"
        for tree, text in [
            (TRUE, "true"), (P, p), (("not", P), f"not {p}"), (("not", ("not", P)), f"not not {p}"),
            (("not", TRUE), "not true"),
            (("or", ("or", P, Q), R), f"{p} or {q} or {r}"),
            (("or", P, ("or", Q, R)), f"{p} or [{q} or {r}]"),
            (("and", P, ("and", Q, R)), f"{p} and [{q} and {r}]"),
            (("and", ("and", P, Q), R), f"{p} and {q} and {r}"),
            (("and", ("or", P, Q), R), f"[{p} or {q}] and {r}"),
            (("or", ("and", P, Q), R), f"{p} and {q} or {r}"),
            (("or", P, ("and", Q, R)), f"{p} or {q} and {r}"),
            (("not", ("and", P, Q)), f"not [{p} and {q}]"),
            (("not", ("or", P, Q)), f"not [{p} or {q}]"),
            (("and", ("not", P), ("not", Q)), f"not {p} and not {q}"),
            (("is", "!=", ("minus", A, ("plus", B, C)), ("times", A, B)), "a - (b + c) != a * b"),
        ]:
            self.assertEqual(shown_condition(tree), text)

    def test_every_word(self):
        for word in COMPARISONS:
            self.assertEqual(shown_condition(("is", word, A, ONE)), f"a {word} 1")

    def small_sums(self, depth):
        trees = [A, ONE]
        for _ in range(depth):
            trees = [A, ONE] + [(kind, one, other) for kind in ("plus", "minus", "times")
                                for one in trees for other in trees]
        return trees

    def small_conditions(self, depth):
        trees = [TRUE, P]
        for _ in range(depth):
            trees = [TRUE, P] + [("not", one) for one in trees] + [
                (kind, one, other) for kind in ("and", "or") for one in trees for other in trees]
        return trees

    def same_again(self, trees, shown, reader, opening, closing):
        for tree in trees:
            text = shown(tree)
            self.assertEqual(reader(text), tree)
            for bare in self.with_a_pair_less(text, opening, closing):
                self.assertNotEqual(self.read_or_none(reader, bare), tree, text)

    def with_a_pair_less(self, text, opening, closing):
        begun = []
        for place, sign in enumerate(text):
            if sign == opening:
                begun.append(place)
            elif sign == closing:
                start = begun.pop()
                yield text[:start] + text[start + 1:place] + text[place + 1:]

    def read_or_none(self, reader, text):
        try:
            return reader(text)
        except NoText:
            return None

    def test_sums_read_again_are_the_same_and_need_each_bracket(self):
        self.same_again(self.small_sums(2), shown_sum, read_sum, "(", ")")

    def test_conditions_read_again_are_the_same_and_need_each_bracket(self):
        self.same_again(self.small_conditions(2), shown_condition, read_condition, "[", "]")

    def test_twelve_deep(self):
        tree, condition = A, P
        for _ in range(12):
            tree = ("minus", ONE, tree)
            condition = ("and", TRUE, condition)
        self.assertEqual(read_sum(shown_sum(tree)), tree)
        self.assertEqual(read_condition(shown_condition(condition)), condition)


class ValueTest(unittest.TestCase):
    VALUES = {"a": 3, "b": -5, "c": 0}

    def test_values(self):
        for text, value in [("7", 7), ("a", 3), ("b", -5), ("a + b", -2), ("a - b", 8), ("a * b", -15), ("c * a", 0),
                            ("a - b - 1", 7), ("a - (b - 1)", 9), ("2 + 3 * 4", 14), ("(2 + 3) * 4", 20),
                            ("999 * 999 * 999", 999 ** 3), ("0 - 999", -999)]:
            self.assertEqual(value_of(read_sum(text), self.VALUES), value, text)

    def test_all_six_words(self):
        for word, truths in [("=", [False, True, False]), ("!=", [True, False, True]), ("<", [True, False, False]),
                             ("<=", [True, True, False]), (">", [False, False, True]), (">=", [False, True, True])]:
            self.assertEqual([compared(word, one, 0) for one in (-1, 0, 1)], truths, word)
            self.assertEqual([holds(("is", word, ("name", "x"), ("number", 0)), {"x": one}) for one in (-1, 0, 1)],
                             truths, word)

    def test_truths(self):
        for text, truth in [
            ("true", True), ("not true", False), ("not not true", True), ("a = 3", True), ("a < b", False),
            ("true and not true", False), ("not true and true", False), ("true and true", True),
            ("not true or not true", False), ("true or not true", True), ("not true or true", True),
            ("not [true and not true]", True), ("a = 3 and b = 0 - 5 and c = 0", True), ("a + b < c - 1", True),
            ("not true and true or true", True), ("not true and [true or true]", False),
        ]:
            self.assertIs(holds(read_condition(text), self.VALUES), truth, text)

    def test_values_are_left_as_they_are(self):
        values = dict(self.VALUES)
        value_of(read_sum("a + b * c"), values)
        holds(read_condition("a = b or c < 1"), values)
        self.assertEqual(values, self.VALUES)


if __name__ == "__main__":
    unittest.main()
