"""The pieces of the texts of facts and sayings: words, names, numbers, comparisons, brackets and conditions."""

from roadsall.errors import NoText
from roadsall.names import FIGURES, LETTERS, MOST_LETTERS, is_number
from roadsall.words import COMPARISONS, read_condition

FACT_WORDS = (
    "or", "and", "not", "true", "dry", "some", "all", "each", "many", "at", "when", "letters", "to", "knows",
    "never", "always", "ahead", "of", "last", "whenever", "can",
)


def pieces_of(text):
    # Each is told as (kind, value, spot); a word and a bracket are kinds of their own.
    pieces = []
    spot = 0
    while spot < len(text):
        if text[spot] == " ":
            spot += 1
        else:
            kind, value, end = piece_at(text, spot)
            pieces.append((kind, value, spot))
            spot = end
    pieces.append(("end", "", len(text)))
    return pieces


def piece_at(text, spot):
    sign = text[spot]
    if sign in LETTERS:
        return letters_at(text, spot)
    if sign in FIGURES:
        return number_at(text, spot)
    if sign in "[]":
        return (sign, sign, spot + 1)
    for word in (text[spot:spot + 2], sign):
        if word in COMPARISONS:
            return ("compared", word, spot + len(word))
    raise NoText(spot)


def letters_at(text, spot):
    end = run_end(text, spot, LETTERS)
    letters = text[spot:end]
    if is_pressed(text, spot) or len(letters) > MOST_LETTERS:
        raise NoText(spot)
    if letters == "when":
        # What stands behind it has words of its own, so it is read as a whole.
        return condition_at(text, end)
    return (letters if letters in FACT_WORDS else "name", letters, end)


def number_at(text, spot):
    end = run_end(text, spot, FIGURES)
    if is_pressed(text, spot) or not is_number(text[spot:end]):
        raise NoText(spot)
    return ("number", int(text[spot:end]), end)


def run_end(text, spot, signs):
    while spot < len(text) and text[spot] in signs:
        spot += 1
    return spot


def is_pressed(text, spot):
    return spot > 0 and text[spot - 1] in LETTERS + FIGURES


def condition_at(text, spot):
    start = run_end(text, spot, " ")
    if text[start:start + 1] != "[":
        raise NoText(start)
    end = bracket_end(text, start + 1)
    try:
        condition = read_condition(text[start + 1:end])
    except NoText as fault:
        raise NoText(start + 1 + fault.place) from None
    return ("when", condition, end + 1)


def bracket_end(text, start):
    depth = 1
    for spot in range(start, len(text)):
        if text[spot] == "[":
            depth += 1
        elif text[spot] == "]":
            depth -= 1
        if depth == 0:
            return spot
    raise NoText(len(text))
