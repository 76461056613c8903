"""What is a name, a number and a told word in all texts and plans."""

LETTERS = "abcdefghijklmnopqrstuvwxyz"
FIGURES = "0123456789"
MOST_LETTERS = 10
MOST_FIGURES = 3
WORDS = ("or", "and", "not", "true")

ROAD_KINDS = ("row", "heap")
WISH_KINDS = ("weak", "strong")
WAYS = ("who", "all", "any")


def is_made_of(text, signs):
    return all([sign in signs for sign in text])


def is_name(text):
    return 1 <= len(text) <= MOST_LETTERS and is_made_of(text, LETTERS) and text not in WORDS


def are_names(texts):
    return all([is_name(text) for text in texts])


def are_unlike_names(texts):
    return are_names(texts) and len(set(texts)) == len(texts)


def is_number(text):
    if not (1 <= len(text) <= MOST_FIGURES and is_made_of(text, FIGURES)):
        return False
    return text == "0" or text[0] != "0"


def is_signed_number(text):
    if text.startswith("-"):
        return is_number(text[1:]) and text != "-0"
    return is_number(text)
