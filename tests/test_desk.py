"""The desk: points 1 to 3, 5 and 18, and the interface of losspact/desk.py."""

import functools
import inspect
import itertools
import unittest

from by_words import callers_of_rows, has_table, parts_of, rows_of, rows_parts_of, runs_of
from losspact.desk import Desk
from losspact.roads import read_road

SIXTY = "9" * 60
# Rows whose answers show all that a desk keeps.
LOOKS = ("parts", "pact", "callers", "fewest 0", "fewest 1", "fewest 2")
EIGHT_WEATHERS = "-, a>b, a>c, b>a, b>c, c>a, c>b, a>b a>c b>a b>c c>a c>b"


def looks_of(desk):
    return [desk.say(row) for row in LOOKS]


def desk_with(*rows):
    desk = Desk()
    for row in rows:
        assert desk.say(row) == "ok", row
    return desk


@functools.cache
def looks_by_words(hands, road, rounds, values):
    """The answers to LOOKS by the words of points 11, 13, 15 and 16, for a road as a text and a tuple of values."""
    weathers = read_road(hands, road)
    starts = list(itertools.product(values, repeat=hands))
    runs = runs_of(starts, weathers, rounds)
    rows = rows_of(weathers, rounds)
    called = [callers_of_rows(hands, [rows[number] for number in part]) for part in rows_parts_of(hands, rows)]
    serving = [many for many in range(3) if has_table(runs_of(starts, weathers, many))]
    return [
        str(len(parts_of(runs))) + " parts of " + str(len(runs)) + " runs",
        "table" if has_table(runs) else "none",
        " ".join("".join("abcd"[hand] for hand in some) or "-" for some in called),
    ] + [str(serving[0]) if serving and serving[0] <= most else "none" for most in range(3)]


class DeskCase(unittest.TestCase):
    def assert_said(self, desk, said):
        for row, told in said:
            with self.subTest(row=row):
                answer = desk.say(row)
                self.assertEqual(answer, told)
                self.assertIs(type(answer), str)

    def assert_looks(self, desk, hands, road, rounds, values):
        self.assertEqual(looks_of(desk), looks_by_words(hands, road, rounds, values))


class InterfaceTest(unittest.TestCase):
    def test_arguments(self):
        self.assertEqual(list(inspect.signature(Desk).parameters), [])
        self.assertEqual(list(inspect.signature(Desk().say).parameters), ["row"])


class BeginningTest(DeskCase):
    def test_the_beginning(self):
        self.assert_looks(Desk(), 2, "-", 1, (0, 1))
        self.assert_said(Desk(), [
            ("parts", "4 parts of 4 runs"), ("pact", "table"), ("callers", "ab"),
            ("fewest 0", "none"), ("fewest 1", "1"), ("fewest 5", "1"),
        ])

    def test_the_road_of_the_beginning(self):
        # With more weathers than one there would be more runs of more rounds.
        self.assert_said(Desk(), [("rounds 5", "ok"), ("parts", "4 parts of 4 runs"), ("callers", "ab")])

    def test_the_hands_of_the_beginning(self):
        self.assert_said(Desk(), [("road a>c", "no road"), ("road c>d", "no road"), ("road b>a", "ok")])


class HandsTest(DeskCase):
    def test_so_many_hands(self):
        self.assert_said(Desk(), [
            ("hands 2", "ok"), ("parts", "4 parts of 4 runs"), ("callers", "ab"),
            ("hands 3", "ok"), ("parts", "8 parts of 8 runs"), ("callers", "abc"),
            ("hands 4", "ok"), ("parts", "16 parts of 16 runs"), ("callers", "abcd"),
            ("hands 2", "ok"), ("parts", "4 parts of 4 runs"), ("callers", "ab"),
        ])

    def test_all_else_is_as_at_the_beginning(self):
        for hands in (2, 3, 4):
            for rows in (
                ("road a>b, b>a", "rounds 2", "values 4 5 6"),
                ("road a>b",), ("rounds 0",), ("values 7",), ("values 4 5 6",),
                ("hands 3", "road a>b a>c b>a b>c c>a c>b", "values 7"),
                ("hands 4", "road a>d", "rounds 0"),
            ):
                with self.subTest(hands=hands, rows=rows):
                    desk = desk_with(*rows)
                    self.assertNotEqual(looks_of(desk), looks_of(Desk()))
                    self.assertEqual(desk.say(f"hands {hands}"), "ok")
                    self.assert_looks(desk, hands, "-", 1, (0, 1))
                    # One weather alone: rounds make no more runs.
                    self.assertEqual(desk.say("rounds 5"), "ok")
                    self.assertEqual(desk.say("parts"), f"{2 ** hands} parts of {2 ** hands} runs")

    def test_the_rounds_begin_anew(self):
        self.assert_said(Desk(), [
            ("rounds 3", "ok"), ("hands 2", "ok"), ("road a>b, b>a", "ok"), ("parts", "4 parts of 8 runs"),
        ])

    def test_which_letters_there_are(self):
        desk = Desk()
        for hands, there in ((4, "abcd"), (2, "ab"), (3, "abc")):
            self.assertEqual(desk.say(f"hands {hands}"), "ok")
            for start, goal in itertools.permutations("abcd", 2):
                told = "ok" if start in there and goal in there else "no road"
                self.assertEqual(desk.say(f"road {start}>{goal}"), told)


class RoadTest(DeskCase):
    def test_roads(self):
        self.assert_said(Desk(), [
            ("road -, a>b", "ok"), ("parts", "2 parts of 8 runs"), ("pact", "table"), ("callers", "b"),
            ("road -, b>a", "ok"), ("parts", "2 parts of 8 runs"), ("pact", "table"), ("callers", "a"),
            ("road -, a>b, b>a", "ok"), ("parts", "1 parts of 12 runs"), ("pact", "none"), ("callers", "-"),
            ("road a>b, b>a", "ok"), ("parts", "4 parts of 8 runs"), ("pact", "table"), ("callers", "b a"),
            ("road a>b b>a", "ok"), ("parts", "1 parts of 4 runs"), ("pact", "none"), ("callers", "-"),
            ("road b>a a>b, -", "ok"), ("parts", "5 parts of 8 runs"), ("pact", "none"), ("callers", "- ab"),
            ("road -", "ok"), ("parts", "4 parts of 4 runs"), ("pact", "table"), ("callers", "ab"),
        ])

    def test_no_text(self):
        for text in (
            "", " ", "-,", ", -", "- ", " -", "-  ", "--", "- -", "- a>b", "a>b -", "a", "a>", ">b", "a>b,b>a",
            "a>b,  b>a", "a>b , b>a", "a>b  b>a", "a>b ", " a>b", "A>b", "a>e", "0>1", "a>b\n", "a>b;", "a-b",
            "a>b, , b>a", "ok", "what", "-, a>b,", "a>b, a>e", "a>a, x", "c>d -",
        ):
            with self.subTest(text=text):
                desk = desk_with("road a>b, b>a", "rounds 2", "values 4 5 6")
                self.assertEqual(desk.say("road " + text), "no text")
                self.assert_looks(desk, 2, "a>b, b>a", 2, (4, 5, 6))

    def test_no_road(self):
        nine = "-, a>b, a>c, b>a, b>c, c>a, c>b, a>b b>a, a>c c>a"
        for hands, text in (
            (2, "a>a"), (2, "a>c"), (2, "c>a"), (2, "d>d"), (2, "a>b a>b"), (2, "-, -"), (2, "a>b, a>b"), (3, "a>d"),
            (3, nine), (2, "a>b b>a, b>a a>b"), (4, "-, b>b"), (4, "a>b, c>d, a>b"), (2, "-, a>b, b>a, a>b b>a, a>b"),
        ):
            with self.subTest(hands=hands, text=text):
                desk = desk_with(f"hands {hands}", "road a>b, b>a", "values 3")
                self.assertEqual(desk.say("road " + text), "no road")
                self.assert_looks(desk, hands, "a>b, b>a", 1, (3,))

    def test_all_else_stays(self):
        desk = desk_with("hands 3", "rounds 2", "values -1", "road a>b, c>a b>a")
        self.assert_looks(desk, 3, "a>b, c>a b>a", 2, (-1,))
        desk.say("road a>c")
        self.assert_looks(desk, 3, "a>c", 2, (-1,))


class RoundsTest(DeskCase):
    def test_rounds(self):
        desk = desk_with("road a>b, b>a")
        for rounds in (5, 0, 4, 1, 3, 2):
            self.assertEqual(desk.say(f"rounds {rounds}"), "ok")
            self.assertEqual(desk.say("parts").split(" ")[2:], ["of", str(4 * 2 ** rounds), "runs"])
        self.assert_said(desk, [
            ("rounds 0", "ok"), ("parts", "1 parts of 4 runs"), ("pact", "none"), ("callers", "-"),
            ("rounds 1", "ok"), ("parts", "4 parts of 8 runs"), ("pact", "table"), ("callers", "b a"),
            ("rounds 2", "ok"), ("parts", "12 parts of 16 runs"), ("pact", "table"), ("callers", "b ab ab a"),
        ])

    def test_all_else_stays(self):
        desk = desk_with("hands 3", "values 8 -9", "road a>b, c>a b>a", "rounds 0")
        self.assert_looks(desk, 3, "a>b, c>a b>a", 0, (8, -9))
        desk.say("rounds 1")
        self.assert_looks(desk, 3, "a>b, c>a b>a", 1, (8, -9))


class ValuesTest(DeskCase):
    def assert_values(self, rest, many):
        desk = desk_with("rounds 0")
        self.assertEqual(desk.say("values " + rest), "ok")
        self.assertEqual(desk.say("parts"), f"1 parts of {many ** 2} runs")
        self.assertEqual(desk.say("pact"), "table" if many == 1 else "none")
        # Where all is heard each run is a part of its own: the values are unlike.
        self.assertEqual(desk.say("rounds 1"), "ok")
        self.assertEqual(desk.say("parts"), f"{many ** 2} parts of {many ** 2} runs")
        self.assertEqual(desk.say("pact"), "table")

    def test_values(self):
        for rest in ("0", "1", "7", "-1", "10", "-10", "100", "99", "-90210"):
            self.assert_values(rest, 1)
        for rest in ("0 1", "1 0", "-1 1", "5 -5", "1 10", "0 -1", "10 100", "1 11"):
            self.assert_values(rest, 2)
        for rest in ("0 1 2", "-1 0 1", "1 -1 11", "100 10 1", "3 2 1", "-3 -2 -1"):
            self.assert_values(rest, 3)

    def test_numbers_of_sixty_figures(self):
        one = "1" + "0" * 59
        for rest in (SIXTY, "-" + SIXTY, one, "-" + one):
            self.assert_values(rest, 1)
        # They differ in the last figure, the first one or the minus alone.
        for rest in (
            SIXTY + " " + SIXTY[:-1] + "8", "-" + SIXTY + " -" + SIXTY[:-1] + "8", SIXTY + " -" + SIXTY,
            one + " 2" + one[1:], "-" + one + " " + one, one + " " + one[:-1] + "1", one + " 0",
        ):
            self.assert_values(rest, 2)
        self.assert_values(SIXTY + " -" + SIXTY + " " + SIXTY[:-1] + "8", 3)
        self.assert_values("-" + one + " -" + one[:-1] + "1 " + one, 3)

    def test_no_values(self):
        long_one = "1" + "0" * 60
        for rest in (
            "", " ", "-", "--1", "-0", "00", "01", "-01", "000", "-00", "0 -0", "1 02", "007", "+1", "1.0",
            "1,2", "1, 2", "1e3",
            "1_0", "a", "0x1", "1-", "1-2", "- 1", "1 ", " 1", "1  2", "1 2 ", "1\t2", "1\n", "\n1", "1 1",
            "0 0", "-1 -1", "1 2 1",
            "2 1 1", "1 1 2", "1 2 3 4", "0 1 2 3 4", "1 2 3 3", SIXTY + "9",
            "-" + SIXTY + "9", long_one, "-" + long_one,
            "1 " + long_one, SIXTY + " " + SIXTY, "0" * 60, "0" * 61, "\u0661", "1 \u00b2", "\uff11",
            "1 2 x", "x 1", "1 -", "1 2 -0", "one", "None", "True",
        ):
            for rows, values in ((("values 5 -6 7",), (5, -6, 7)), (("values 8",), (8,)), ((), (0, 1))):
                with self.subTest(rest=rest, values=values):
                    desk = desk_with("road a>b, b>a", *rows)
                    self.assertEqual(desk.say("values " + rest), "what")
                    self.assert_looks(desk, 2, "a>b, b>a", 1, values)

    def test_all_else_stays(self):
        desk = desk_with("hands 3", "road a>b, c>a b>a", "rounds 0", "values 4 2 3")
        self.assert_looks(desk, 3, "a>b, c>a b>a", 0, (4, 2, 3))
        desk.say("values 5")
        self.assert_looks(desk, 3, "a>b, c>a b>a", 0, (5,))


class AnswersTest(DeskCase):
    def test_fewest(self):
        # What hand a says comes to hand d by way of b and c alone, and always so.
        chain = "a>c a>d b>a b>d c>a c>b d>a d>b d>c, a>c a>d b>a b>d c>a c>b d>a"
        self.assert_said(desk_with("hands 4", f"road {chain}"), [
            ("fewest 0", "none"), ("fewest 1", "none"), ("fewest 2", "none"), ("fewest 3", "3"), ("fewest 4", "3"),
            ("fewest 5", "3"),
        ])
        # One value alone is agreed on without a letter.
        self.assert_said(desk_with("road a>b b>a", "values 3"), [("fewest 0", "0"), ("fewest 5", "0")])
        self.assert_said(desk_with("road a>b b>a"), [("fewest 0", "none"), ("fewest 5", "none")])

    def test_fewest_leaves_the_rounds(self):
        for rounds in (0, 1, 2):
            desk = desk_with("road a>b, b>a", f"rounds {rounds}")
            before = looks_of(desk)
            self.assertEqual(desk.say("fewest 5"), "1")
            self.assertEqual(looks_of(desk), before)

    def test_callers_are_letters(self):
        self.assert_said(desk_with("hands 4"), [
            ("road a>b", "ok"), ("callers", "bcd"), ("road d>a", "ok"), ("callers", "abc"),
            ("road a>b b>a", "ok"), ("callers", "cd"), ("road c>d, d>c", "ok"), ("callers", "ab"),
            ("road a>b c>d d>c", "ok"), ("callers", "b"), ("road a>b b>a c>d d>c", "ok"), ("callers", "-"),
            ("rounds 0", "ok"), ("callers", "-"), ("rounds 2", "ok"), ("callers", "abcd"),
        ])
        self.assert_said(desk_with("hands 3"), [
            ("road -, a>b a>c b>a b>c c>a c>b, a>b, a>c b>a b>c c>a c>b", "ok"), ("callers", "bc -"),
        ])

    def test_by_the_words_of_the_points(self):
        for hands, road, rounds, values in (
            (2, "-, a>b, b>a, a>b b>a", 2, (0, 1)), (2, "b>a, a>b b>a", 2, (6, 5)), (2, "a>b, b>a", 1, (2, 1, 3)),
            (3, "a>b a>c, b>a b>c", 1, (1, -1)), (3, "a>c b>a c>b, -", 1, (0, 1)), (3, "b>c, a>b a>c", 2, (7,)),
            (4, "a>c a>d b>a b>d c>a c>b d>b d>c", 2, (1, 0)), (4, "a>b, c>d d>c", 2, (-4,)),
        ):
            with self.subTest(hands=hands, road=road, rounds=rounds, values=values):
                rows = [f"road {road}", f"rounds {rounds}", "values " + " ".join(str(value) for value in values)]
                for order in itertools.permutations(rows):
                    self.assert_looks(desk_with(f"hands {hands}", *order), hands, road, rounds, values)

    def test_looking_changes_nothing(self):
        desk = desk_with("hands 3", "road a>b, c>a b>a", "values 3 4")
        first = looks_of(desk)
        for turn in range(3):
            self.assertEqual(looks_of(desk), first)

    def test_a_long_talk(self):
        # All rows in a mixed order, and behind each the whole desk held against what it should keep.
        rows = [
            "hands 2", "hands 3", "road -", "road a>b", "road a>b, b>a", "road b>c, a>b b>a", "road c>b",
            "road x", "road a>d",
            "rounds 0", "rounds 1", "rounds 2", "rounds 6", "values 0 1", "values 5", "values 2 2",
            "values -3 3", "what", "pact ",
        ]
        desk, kept = Desk(), {"hands": 2, "road": "-", "rounds": 1, "values": (0, 1)}
        place, answers = 0, set()
        for turn in range(400):
            place = (place * 7 + turn + 3) % len(rows)
            told = self.kept_by_words(kept, rows[place])
            self.assertEqual(desk.say(rows[place]), told)
            answers.add((rows[place], told))
            self.assert_looks(desk, **kept)
        self.assertGreaterEqual(len(answers), len(rows))

    def kept_by_words(self, kept, row):
        word, blank, rest = row.partition(" ")
        if row in ("what", "pact ", "rounds 6", "values 2 2"):
            return "what"
        if row == "road x":
            return "no text"
        if word == "road" and any(sign in rest for sign in "abcd"[kept["hands"]:]):
            return "no road"
        if word == "hands":
            kept.update(hands=int(rest), road="-", rounds=1, values=(0, 1))
        else:
            kept[word] = {
                "road": lambda: rest,
                "rounds": lambda: int(rest),
                "values": lambda: tuple(int(text) for text in rest.split(" ")),
            }[word]()
        return "ok"


class WhatTest(DeskCase):
    WORDS = ("hands", "road", "rounds", "values", "parts", "pact", "fewest", "callers")

    def assert_what(self, row):
        for rows, kept in (
            ((), (2, "-", 1, (0, 1))),
            (("hands 3", "road b>c, a>b b>a", "rounds 2", "values 5"), (3, "b>c, a>b b>a", 2, (5,))),
        ):
            with self.subTest(row=row, rows=rows):
                desk = desk_with(*rows)
                answer = desk.say(row)
                self.assertEqual(answer, "what")
                self.assertIs(type(answer), str)
                self.assert_looks(desk, *kept)

    def test_no_word(self):
        for row in (
            "", " ", "  ", "what", "ok", "part", "partss", "PARTS", "Pact", "help", "-", "2", "hand 2",
            "handss 2", "round 1",
            "value 1", "value", "roads -", "caller", "fewest_rounds 3", "few 3", "table", "none", "quit",
            "say parts", "Hands 2",
            "\n", "\t", "parts\n", "pact\t", "\nparts", "callers\r", "parts;", "parts.", "parts,", "pactparts",
            "hands2",
            "hands\t2", "road\t-", "rounds\n1", "fewest-1", "rounds=1", "values,1", "begin", "begin 2",
            "answer parts", "starts",
            "shown_parts", "road_ -", "rounds1", "1 rounds",
        ):
            self.assert_what(row)

    def test_blanks_ahead(self):
        for row in ("parts", "pact", "callers", "fewest 1", "hands 2", "road -", "rounds 1", "values 1"):
            self.assert_what(" " + row)
            self.assert_what("  " + row)

    def test_without_a_rest(self):
        for word in ("hands", "road", "rounds", "values", "fewest"):
            self.assert_what(word)

    def test_with_a_rest(self):
        for word in ("parts", "pact", "callers"):
            for rest in ("", " ", "1", "0", "-", "parts", "2 3", "  "):
                self.assert_what(word + " " + rest)

    def test_an_empty_rest(self):
        for word in self.WORDS:
            if word != "road":
                self.assert_what(word + " ")
                self.assert_what(word + "  ")
        # A road has a rest then, though one that is none.
        self.assert_said(Desk(), [("road ", "no text"), ("road  ", "no text"), ("road", "what")])

    def test_no_figure(self):
        good = {"hands": "234", "rounds": "012345", "fewest": "012345"}
        for word, figures in good.items():
            for figure in "0123456789":
                if figure not in figures:
                    self.assert_what(f"{word} {figure}")
            for rest in (
                "22", "02", "2 ", " 2", "2 2", "-2", "+2", "2.0", "2,", "x", "two", "23", "234", "345", "12",
                "012345", "10",
                "00", "-", "-0", "2\n", "\n2", "\u0662", "\u00b2", "\uff12", "None", "0x2", "2e0",
            ):
                self.assert_what(f"{word} {rest}")

    def test_two_blanks(self):
        for row in ("hands  2", "rounds  1", "fewest  1", "values  1", "values  1 2", "hands 2 ", "rounds 1 ",
        "fewest 1 "):
            self.assert_what(row)


class TooManyTest(DeskCase):
    def test_parts_and_pact(self):
        # 2,916 runs are few enough, 3,375 are too many.
        desk = desk_with("hands 4", "values 0 1 2", "road -, a>b, a>c, a>d, b>c, b>d", "rounds 2")
        self.assertEqual(desk.say("parts").split(" ")[1:], ["parts", "of", "2916", "runs"])
        self.assertEqual(desk.say("pact"), "table")
        desk = desk_with("hands 3", "values 0 1 2", "road -, a>b, a>c, b>c, b>a", "rounds 3")
        self.assert_said(desk, [
            ("parts", "too many"), ("pact", "too many"), ("parts", "too many"), ("rounds 2", "ok"), ("pact", "table"),
            ("rounds 3", "ok"), ("pact", "too many"), ("values 0 1", "ok"), ("pact", "table"),
        ])

    def test_nothing_changes(self):
        desk = desk_with("hands 3", f"road {EIGHT_WEATHERS}", "rounds 4")
        self.assert_said(desk, [
            ("parts", "too many"), ("pact", "too many"), ("callers", "too many"), ("fewest 3", "too many"),
            ("fewest 5", "too many"), ("rounds 1", "ok"),
        ])
        self.assertEqual(desk.say("parts").split(" ")[1:], ["parts", "of", "64", "runs"])
        self.assertEqual(desk.say("rounds 2"), "ok")
        self.assertEqual(desk.say("parts").split(" ")[1:], ["parts", "of", "512", "runs"])

    def test_callers_by_the_rows_of_weathers(self):
        # 512 rows of three rounds, but 4,096 runs; 4,096 rows of four rounds.
        desk = desk_with("hands 3", f"road {EIGHT_WEATHERS}", "rounds 3")
        self.assertEqual(desk.say("parts"), "too many")
        told = desk.say("callers").split(" ")
        self.assertIn("-", told)
        self.assertIn("abc", told)
        self.assert_said(desk, [("rounds 4", "ok"), ("callers", "too many")])
        # With one value there are as many runs as rows.
        self.assert_said(desk, [
            ("values 1", "ok"), ("callers", "too many"), ("parts", "too many"), ("rounds 3", "ok"),
        ])
        self.assertEqual(desk.say("parts"), f"{len(told)} parts of 512 runs")

    def test_fewest_by_the_rounds_that_are_looked_at(self):
        # 8, 64, 512 and 4,096 runs; in one weather nothing comes, so no rounds help.
        desk = desk_with("hands 3", f"road {EIGHT_WEATHERS}", "rounds 5")
        self.assert_said(desk, [
            ("fewest 0", "none"), ("fewest 1", "none"), ("fewest 2", "none"), ("fewest 3", "too many"),
            ("fewest 4", "too many"), ("fewest 5", "too many"), ("values 3", "ok"), ("fewest 5", "0"),
            ("values 3 4", "ok"), ("road -, a>b, a>c, b>a, b>c, c>a, c>b", "ok"), ("fewest 5", "2"),
            ("fewest 1", "none"),
            ("parts", "too many"),
        ])


class ApartTest(DeskCase):
    def test_two_desks(self):
        one, other = Desk(), Desk()
        self.assert_said(one, [("hands 3", "ok"), ("road b>c, a>b b>a", "ok"), ("rounds 2", "ok"), ("values 5", "ok")])
        self.assert_looks(other, 2, "-", 1, (0, 1))
        self.assert_said(other, [("road a>b", "ok"), ("rounds 0", "ok"), ("values 1 2 3", "ok")])
        self.assert_looks(one, 3, "b>c, a>b b>a", 2, (5,))
        self.assert_looks(other, 2, "a>b", 0, (1, 2, 3))
        self.assert_looks(Desk(), 2, "-", 1, (0, 1))
        self.assert_said(one, [("hands 4", "ok")])
        self.assert_looks(other, 2, "a>b", 0, (1, 2, 3))
        self.assert_looks(one, 4, "-", 1, (0, 1))


if __name__ == "__main__":
    unittest.main()
