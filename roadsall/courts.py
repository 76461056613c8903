"""The court: what a judge looks up in a plan, and whether what is handed in has the form of what it stands for."""

from roadsall.facts import Scene, truths_in
from roadsall.goers import hand_parts
from roadsall.names import LETTERS, WORDS, is_made_of
from roadsall.standings import HIGHEST_LETTER, NOBODY, Board, begin, ends_on


class Court:
    # A paper may speak of standings that can't come, and of more than can be told: the ends of each standing are looked
    # at where a paper speaks of it, and never all that come.

    def __init__(self, plan, saying):
        self.plan = plan
        self.saying = saying
        self.parts = hand_parts(saying[1:])
        self.board = Board(plan)
        self.first = begin(plan)
        self.known = {}
        self.around = None

    def ends_of(self, standing):
        if standing not in self.known:
            self.known[standing] = ends_on(self.board, standing)
        return self.known[standing]

    def truths_at(self, fact, standings):
        return truths_in(Scene(self.plan, standings, self.around), fact)

    def gather(self, standings):
        # What hands know is from now on looked at by these.
        self.around = Scene(self.plan, standings)


def is_told_thing(thing):
    # No paper holds a truth anywhere; as True is 1 to Python, truths are looked for once, ahead of all else.
    waiting = [thing]
    while waiting:
        piece = waiting.pop()
        if isinstance(piece, (list, tuple)):
            waiting.extend(piece)
        elif isinstance(piece, bool) or not (piece is None or isinstance(piece, (int, str))):
            return False
    return True


def is_tuple_of(thing, length):
    return isinstance(thing, tuple) and len(thing) == length


def are_tuples_of(things, length):
    return isinstance(things, list) and all([is_tuple_of(thing, length) for thing in things])


def is_from(thing, low, high):
    return isinstance(thing, int) and low <= thing <= high


def is_from_nought(thing):
    return isinstance(thing, int) and thing >= 0


def is_standing(board, thing):
    if not is_tuple_of(thing, 2):
        return False
    hands, roads = thing
    if not (is_tuple_of(hands, len(board.homes)) and is_tuple_of(roads, len(board.pairs))):
        return False
    if not all([is_own(board, board.family_of(hand), own) for hand, own in enumerate(hands)]):
        return False
    return all([are_letters(pair[0], letters) for pair, letters in zip(board.pairs, roads)])


def is_own(board, family, own):
    if not is_tuple_of(own, 3):
        return False
    room, cells, whos = own
    if not (is_tuple_of(cells, len(family[3])) and is_tuple_of(whos, len(family[4]))):
        return False
    if not all([is_from(number, cell[1], cell[2]) for number, cell in zip(cells, family[3])]):
        return False
    return is_from(room, 0, len(family[2]) - 1) and all([is_from(who, NOBODY, len(board.homes) - 1) for who in whos])


def are_letters(road, letters):
    if not (isinstance(letters, tuple) and len(letters) <= road[3] and all([is_letter(letter) for letter in letters])):
        return False
    return road[2] == "row" or letters == tuple(sorted(letters))


def is_letter(letter):
    if not (is_tuple_of(letter, 2) and isinstance(letter[0], str)):
        return False
    # A plan isn't looked at for how long its marks are, so letters that come aren't either.
    if letter[0] == "" or letter[0] in WORDS or not is_made_of(letter[0], LETTERS):
        return False
    return is_from(letter[1], -HIGHEST_LETTER, HIGHEST_LETTER)


def are_standings(board, things):
    if not (isinstance(things, list) and all([is_standing(board, thing) for thing in things])):
        return False
    return len(set(things)) == len(things)


def run_from(court, standing, deeds):
    # The standings of the run, or None where it is none.
    if not isinstance(deeds, list):
        return None
    standings = [standing]
    for deed in deeds:
        ends = [end for known, end in court.ends_of(standings[-1]) if known == deed]
        if len(ends) == 0:
            return None
        standings.append(ends[0])
    return standings
