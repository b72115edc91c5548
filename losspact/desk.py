"""The desk: keeps hands, a road, rounds and values, and answers rows by texts."""

from losspact.callers import callers
from losspact.errors import NoRoad, NoText, TooMany
from losspact.pacts import fewest_rounds, pact
from losspact.parts import parts
from losspact.roads import HAND_SIGNS, read_road
from losspact.runs import all_starts, many_runs

FIRST_HANDS = 2
FIRST_ROAD = "-"
FIRST_ROUNDS = 1
FIRST_VALUES = (0, 1)

HANDS_TEXTS = ("2", "3", "4")
ROUNDS_TEXTS = ("0", "1", "2", "3", "4", "5")
FIGURES = "0123456789"
MOST_FIGURES = 60
MOST_VALUES = 3

DONE = "ok"
NO_ROW = "what"
NONE_THERE = "none"
NO_CALLER = "-"


class Desk:
    def __init__(self):
        self.begin(FIRST_HANDS)

    def begin(self, hands):
        self.hands = hands
        self.road = read_road(hands, FIRST_ROAD)
        self.rounds = FIRST_ROUNDS
        self.chosen = list(FIRST_VALUES)

    def say(self, row):
        try:
            return self.answer(row)
        except NoText:
            return "no text"
        except NoRoad:
            return "no road"
        except TooMany:
            return "too many"

    def answer(self, row):
        cut = row.partition(" ")
        # A rest may be empty, so it's the blank that tells whether there is one.
        if cut[1] == "":
            return self.answer_word(row)
        return self.answer_rest(cut[0], cut[2])

    def answer_word(self, word):
        if word == "parts":
            return self.shown_parts()
        if word == "pact":
            return self.shown_pact()
        if word == "callers":
            return self.shown_callers()
        return NO_ROW

    def answer_rest(self, word, rest):
        if word == "fewest" and rest in ROUNDS_TEXTS:
            return self.shown_fewest(int(rest))
        if word == "hands" and rest in HANDS_TEXTS:
            self.begin(int(rest))
        elif word == "road":
            self.road = read_road(self.hands, rest)
        elif word == "rounds" and rest in ROUNDS_TEXTS:
            self.rounds = int(rest)
        elif word == "values" and are_values(rest.split(" ")):
            self.chosen = [int(text) for text in rest.split(" ")]
        else:
            return NO_ROW
        return DONE

    def starts(self):
        return all_starts(self.hands, self.chosen)

    def shown_parts(self):
        starts = self.starts()
        many_parts = len(parts(self.hands, self.road, self.rounds, starts))
        many = many_runs(self.road, self.rounds, starts)
        return f"{many_parts} parts of {many} runs"

    def shown_pact(self):
        told = pact(self.hands, self.road, self.rounds, self.starts())
        return "table" if told[0] == "table" else NONE_THERE

    def shown_fewest(self, most):
        fewest = fewest_rounds(self.hands, self.road, self.starts(), most)
        return NONE_THERE if fewest is None else str(fewest)

    def shown_callers(self):
        return " ".join([shown_hands(told) for told in callers(self.hands, self.road, self.rounds)])


def shown_hands(hands):
    if len(hands) == 0:
        return NO_CALLER
    return "".join([HAND_SIGNS[hand] for hand in hands])


def are_values(texts):
    if len(texts) > MOST_VALUES or len(set(texts)) < len(texts):
        return False
    return all([is_value(text) for text in texts])


def is_value(text):
    figures = text[1:] if text.startswith("-") else text
    if not 1 <= len(figures) <= MOST_FIGURES:
        return False
    # A number is written in one way alone, so that unlike texts are unlike numbers.
    if figures[0] == "0" and text != "0":
        return False
    return all([sign in FIGURES for sign in figures])
