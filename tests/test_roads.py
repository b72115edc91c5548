"""Roads: points 2 to 5, and the interface of losspact/roads.py."""

import copy
import inspect
import itertools
import unittest

from losspact.errors import NoRoad, NoText, PactError
from losspact.roads import check_road, read_road, shown_road

SIXTY = 10 ** 60 - 1

EIGHT_OF_THREE = [
    (),
    ((0, 1),),
    ((0, 2),),
    ((1, 0),),
    ((1, 2),),
    ((2, 0),),
    ((2, 1),),
    ((0, 1), (0, 2), (1, 0), (1, 2), (2, 0), (2, 1)),
]
NINTH_OF_THREE = ((0, 1), (2, 1))
EIGHT_TEXT = "-, a>b, a>c, b>a, b>c, c>a, c>b, a>b a>c b>a b>c c>a c>b"


def letters_of(hands):
    return [(start, goal) for start in range(hands) for goal in range(hands) if start != goal]


def weathers_of(hands):
    letters = letters_of(hands)
    return [
        weather
        for many in range(len(letters) + 1)
        for weather in itertools.combinations(letters, many)
    ]


class RoadCase(unittest.TestCase):
    def assert_refused(self, refusal, function, *arguments):
        # The very class is asked for, so that a class between would be seen.
        with self.assertRaises(PactError) as caught:
            function(*arguments)
        self.assertEqual(type(caught.exception), refusal)


class InterfaceTest(unittest.TestCase):
    def test_arguments(self):
        for function, names in (
            (check_road, ["hands", "road"]),
            (read_road, ["hands", "text"]),
            (shown_road, ["road"]),
        ):
            with self.subTest(function=function.__name__):
                self.assertEqual(list(inspect.signature(function).parameters), names)


class CheckRoadTest(RoadCase):
    def test_good_roads(self):
        full = tuple(letters_of(4))
        for hands, road in (
            (2, [()]),
            (2, [((0, 1),)]),
            (2, [((0, 1), (1, 0))]),
            (2, [(), ((0, 1),), ((1, 0),), ((0, 1), (1, 0))]),
            (2, [((1, 0),), ()]),
            (3, [()]),
            (3, [((0, 2), (2, 1))]),
            (3, EIGHT_OF_THREE),
            (3, EIGHT_OF_THREE[::-1]),
            (4, [()]),
            (4, [full]),
            (4, [full[place:] for place in range(8)]),
            (4, EIGHT_OF_THREE),
        ):
            with self.subTest(hands=hands, road=road):
                self.assertIsNone(check_road(hands, road))

    def test_every_weather_of_two_and_three_hands(self):
        for hands in (2, 3):
            for weather in weathers_of(hands):
                with self.subTest(hands=hands, weather=weather):
                    self.assertIsNone(check_road(hands, [weather]))

    def test_hands_below_two_and_above_four(self):
        for hands in (-SIXTY, -2, -1, 0, 1, 5, 6, SIXTY):
            with self.subTest(hands=hands):
                self.assert_refused(NoRoad, check_road, hands, [()])
        self.assert_refused(NoRoad, check_road, 5, [((0, 1),)])

    def test_no_weather(self):
        for hands in (2, 3, 4):
            with self.subTest(hands=hands):
                self.assert_refused(NoRoad, check_road, hands, [])

    def test_more_than_eight_weathers(self):
        self.assert_refused(NoRoad, check_road, 3, EIGHT_OF_THREE + [NINTH_OF_THREE])
        self.assert_refused(NoRoad, check_road, 4, weathers_of(4)[:9])
        self.assert_refused(NoRoad, check_road, 4, weathers_of(4)[:100])

    def test_a_start_or_goal_that_is_no_hand(self):
        for hands in (2, 3, 4):
            for wrong in (-1, -hands, hands, hands + 1, SIXTY, -SIXTY):
                for letter in ((wrong, 0), (0, wrong), (wrong, hands - 1), (hands - 1, wrong)):
                    with self.subTest(hands=hands, letter=letter):
                        self.assert_refused(NoRoad, check_road, hands, [(letter,)])
                        self.assert_refused(NoRoad, check_road, hands, [(), (letter,)])

    def test_a_wrong_letter_behind_good_ones(self):
        self.assert_refused(NoRoad, check_road, 2, [((0, 1), (1, 2))])
        self.assert_refused(NoRoad, check_road, 3, [(), ((0, 1), (2, 3))])
        self.assert_refused(NoRoad, check_road, 4, [((-1, 0), (0, 1))])

    def test_two_letters_of_hands_that_are_not_there(self):
        self.assert_refused(NoRoad, check_road, 2, [((2, 3),)])
        self.assert_refused(NoRoad, check_road, 4, [((SIXTY - 1, SIXTY),)])

    def test_a_letter_from_a_hand_to_itself(self):
        for hands in (2, 3, 4):
            for hand in range(hands):
                with self.subTest(hands=hands, hand=hand):
                    self.assert_refused(NoRoad, check_road, hands, [((hand, hand),)])
        self.assert_refused(NoRoad, check_road, 3, [((0, 1), (1, 1), (1, 2))])

    def test_letters_that_do_not_ascend(self):
        for weather in (
            ((1, 0), (0, 1)),
            ((0, 2), (0, 1)),
            ((0, 1), (2, 0), (1, 0)),
            ((0, 1), (0, 2), (2, 1), (2, 0)),
        ):
            with self.subTest(weather=weather):
                self.assert_refused(NoRoad, check_road, 3, [weather])
                self.assert_refused(NoRoad, check_road, 3, [(), weather])

    def test_a_letter_twice_in_a_weather(self):
        for weather in (((0, 1), (0, 1)), ((0, 1), (1, 0), (1, 0)), ((0, 1), (1, 0), (0, 1))):
            with self.subTest(weather=weather):
                self.assert_refused(NoRoad, check_road, 2, [weather])
        self.assert_refused(NoRoad, check_road, 2, [((0, 1),) * 100])

    def test_the_same_weather_twice(self):
        for road in (
            [(), ()],
            [((0, 1),), ((0, 1),)],
            [((0, 1),), (), ((0, 1),)],
            [(), ((0, 1), (1, 0)), ((0, 1),), ((0, 1), (1, 0))],
        ):
            with self.subTest(road=road):
                self.assert_refused(NoRoad, check_road, 2, road)
        self.assert_refused(NoRoad, check_road, 3, EIGHT_OF_THREE[:7] + [()])

    def test_the_longest_road_that_may_be_handed_in(self):
        self.assert_refused(NoRoad, check_road, 4, [((0, 1),) * 100] * 100)

    def test_what_is_handed_in_stays_as_it_was(self):
        for hands, road in ((3, EIGHT_OF_THREE[::-1]), (2, [((1, 0), (0, 1)), ()]), (2, [(), ()]), (2, [])):
            before = copy.deepcopy(road)
            with self.subTest(road=road):
                try:
                    check_road(hands, road)
                except NoRoad:
                    pass
                self.assertEqual(road, before)


class ReadRoadTest(RoadCase):
    def test_ordinary_texts(self):
        for hands, text, road in (
            (2, "-", [()]),
            (2, "a>b", [((0, 1),)]),
            (2, "b>a", [((1, 0),)]),
            (2, "a>b b>a", [((0, 1), (1, 0))]),
            (2, "-, a>b, b>a", [(), ((0, 1),), ((1, 0),)]),
            (2, "b>a, a>b, -", [((1, 0),), ((0, 1),), ()]),
            (3, "c>b, -, a>c b>c", [((2, 1),), (), ((0, 2), (1, 2))]),
            (3, EIGHT_TEXT, EIGHT_OF_THREE),
            (4, EIGHT_TEXT, EIGHT_OF_THREE),
            (4, "a>d d>a, d>c", [((0, 3), (3, 0)), ((3, 2),)]),
        ):
            with self.subTest(hands=hands, text=text):
                self.assertEqual(read_road(hands, text), road)

    def test_letters_in_any_order_are_told_ascending(self):
        letters = ["a>b", "a>c", "b>a", "c>b"]
        for order in itertools.permutations(letters):
            with self.subTest(order=order):
                self.assertEqual(
                    read_road(3, " ".join(order) + ", c>a b>c"),
                    [((0, 1), (0, 2), (1, 0), (2, 1)), ((1, 2), (2, 0))],
                )

    def test_weathers_are_told_in_the_order_of_the_text(self):
        weathers = {"-": (), "a>b": ((0, 1),), "b>a": ((1, 0),), "b>a a>b": ((0, 1), (1, 0))}
        for order in itertools.permutations(weathers):
            with self.subTest(order=order):
                self.assertEqual(read_road(2, ", ".join(order)), [weathers[part] for part in order])

    def test_kinds(self):
        road = read_road(3, "c>b a>b, -")
        self.assertIs(type(road), list)
        for weather in road:
            self.assertIs(type(weather), tuple)
            for letter in weather:
                self.assertIs(type(letter), tuple)
                self.assertEqual([type(hand) for hand in letter], [int, int])

    def test_texts_that_are_not_so_written(self):
        for text in (
            "", " ", "  ", ",", ", ", " ,", "--", "- -", "-,", "-,-", "- , -",
            # another sign
            "a<b", "a-b", "a>b;", "a>b; b>a", "a>b. b>a", "a>b!", "~", "a>b%", "a>b\n", "\na>b", "a>b\tb>a", "a>b,\tb>a",
            "a>b\n, b>a", "\u2212", "a>b,\u00a0b>a", "-\n", "0>1", "(0, 1)", "a=b", "a>b b<a",
            # a letter that is none of the four
            "e>a", "a>e", "z>a", "a>z", "A>b", "a>B", "A>B", "x", "none", "a>\u0430",
            # parts of a lost letter missing or too many
            "a", "b", "ab", "a>", ">b", ">", "a>>b", "aa>b", "a>bb", "a>b>a", "a>bb>a", "abc", "a>b>", ">a>b", "bcd", "abcd",
            "a >b", "a> b", "a > b", "cd>a", "a>cd",
            # blanks
            " a>b", "a>b ", " -", "- ", "a>b  b>a", "a>b,  b>a", "a>b , b>a", "a>b ,b>a", "-,  a>b", " -, a>b", "-, a>b ",
            # commas
            "a>b,b>a", "-,a>b", ",a>b", ", a>b", "a>b,", "a>b, ", ",, a>b", "a>b,, b>a",
            # an empty weather
            "a>b, , b>a", "-, ", ", -", ", , ", "-, , a>b",
            # nothing lost beside a lost letter
            "- a>b", "a>b -", "a>b - b>a", "-a>b", "a>b-", "b>a, a>b -", "- a>b, b>a", "->", "a>-", "->b",
        ):
            with self.subTest(text=text):
                self.assert_refused(NoText, read_road, 2, text)
                self.assert_refused(NoText, read_road, 4, text)

    def test_every_other_sign_is_refused(self):
        for code in range(32, 127):
            sign = chr(code)
            for text, good in ((sign, "-"), (sign + ">a", "abcd"), ("a>" + sign, "abcd"), ("a" + sign + "b", ">")):
                if sign in good:
                    continue
                with self.subTest(text=text):
                    self.assert_refused(NoText, read_road, 4, text)

    def test_a_hand_to_itself(self):
        for text in ("a>a", "b>b", "a>b b>b", "-, a>a", "a>a, -"):
            with self.subTest(text=text):
                self.assert_refused(NoRoad, read_road, 2, text)
        self.assert_refused(NoRoad, read_road, 4, "d>d")

    def test_a_hand_that_is_not_there(self):
        for hands, signs in ((2, "cd"), (3, "d")):
            for sign in signs:
                for text in (sign + ">a", "a>" + sign, "-, b>" + sign, "a>b " + sign + ">b", sign + ">" + sign):
                    with self.subTest(hands=hands, text=text):
                        self.assert_refused(NoRoad, read_road, hands, text)
        self.assert_refused(NoRoad, read_road, 2, "c>d")
        self.assertEqual(read_road(3, "c>a"), [((2, 0),)])
        self.assertEqual(read_road(4, "c>d"), [((2, 3),)])

    def test_a_letter_twice_in_a_weather(self):
        for text in ("a>b a>b", "a>b b>a a>b", "-, b>a b>a", "a>b a>b, -"):
            with self.subTest(text=text):
                self.assert_refused(NoRoad, read_road, 2, text)

    def test_the_same_weather_twice(self):
        for text in ("-, -", "a>b, a>b", "a>b, -, a>b", "a>b b>a, a>b b>a", "a>b b>a, b>a a>b", "b>a a>b, -, a>b b>a"):
            with self.subTest(text=text):
                self.assert_refused(NoRoad, read_road, 2, text)

    def test_more_than_eight_weathers(self):
        self.assertEqual(len(read_road(3, EIGHT_TEXT)), 8)
        self.assert_refused(NoRoad, read_road, 3, EIGHT_TEXT + ", a>b c>b")
        self.assert_refused(NoRoad, read_road, 4, EIGHT_TEXT + ", d>a, d>b")

    def test_no_text_goes_ahead_of_no_road(self):
        road_faults = ("a>a", "a>c", "a>b a>b", "-, -", "a>b b>a, b>a a>b", EIGHT_TEXT + ", b>a c>a")
        text_faults = ("", " ", "a>e", "a", "- a>b", "a>b  b>a", "a>b,b>a", "b>a ", "\n")
        for road_fault in road_faults:
            self.assert_refused(NoRoad, read_road, 2, road_fault)
            for text_fault in text_faults:
                for text in (
                    road_fault + ", " + text_fault,
                    text_fault + ", " + road_fault,
                    "b>a, " + road_fault + ", a>b b>a, " + text_fault,
                    "b>a, " + text_fault + ", a>b b>a, " + road_fault,
                ):
                    with self.subTest(text=text):
                        self.assert_refused(NoText, read_road, 2, text)

    def test_both_sorts_of_faults_within_one_weather(self):
        for text in ("a>a a>e", "a>e a>a", "a>b a>b -", "- a>b a>b", "a>c ", " a>c", "c>d  a>b", "a>a x a>b", "d>d,-"):
            with self.subTest(text=text):
                self.assert_refused(NoText, read_road, 2, text)

    def test_long_texts(self):
        long = ", ".join(["a>b b>a"] * 222)
        self.assertLessEqual(len(long), 2000)
        self.assert_refused(NoRoad, read_road, 2, long)
        self.assert_refused(NoText, read_road, 2, long + ",")
        self.assert_refused(NoText, read_road, 2, " " + long)
        self.assert_refused(NoText, read_road, 2, " " * 2000)
        full = ["%s>%s" % ("abcd"[start], "abcd"[goal]) for start, goal in letters_of(4)]
        text = ", ".join([" ".join(full[place:]) for place in range(8)])
        self.assertEqual(read_road(4, text), [tuple(letters_of(4)[place:]) for place in range(8)])

    def test_a_number_of_hands_beyond_the_bounds_is_not_refused(self):
        self.assertEqual(read_road(5, "-, d>a"), [(), ((3, 0),)])
        self.assertEqual(read_road(1, "-"), [()])

    def test_what_is_told_is_the_askers_own(self):
        first = read_road(3, "-, a>b, c>b a>c")
        kept = copy.deepcopy(first)
        first.reverse()
        first.append(((9, 9),))
        second = read_road(3, "-, a>b, c>b a>c")
        self.assertEqual(second, kept)
        second.clear()
        self.assertEqual(read_road(3, "-, a>b, c>b a>c"), kept)

    def test_what_is_told_stays_as_it_was(self):
        first = read_road(2, "-, a>b")
        read_road(2, "b>a")
        with self.assertRaises(NoRoad):
            read_road(2, "-, -")
        self.assertEqual(first, [(), ((0, 1),)])


class ShownRoadTest(RoadCase):
    def test_ordinary_roads(self):
        for road, text in (
            ([()], "-"),
            ([((0, 1),)], "a>b"),
            ([((0, 1), (1, 0))], "a>b b>a"),
            ([(), ((1, 0),)], "-, b>a"),
            ([((1, 0),), ()], "b>a, -"),
            ([((0, 2), (2, 1)), (), ((3, 0),)], "a>c c>b, -, d>a"),
            (EIGHT_OF_THREE, EIGHT_TEXT),
        ):
            with self.subTest(road=road):
                self.assertEqual(shown_road(road), text)
                self.assertIs(type(shown_road(road)), str)

    def test_reading_gives_the_road_again(self):
        for hands in (2, 3, 4):
            weathers = weathers_of(hands)
            for place in range(0, len(weathers), 5):
                road = weathers[place:place + 8][::-1]
                self.assertEqual(read_road(hands, shown_road(road)), road)

    def test_a_text_in_another_order_is_shown_ascending(self):
        self.assertEqual(shown_road(read_road(3, "c>a b>a a>c, -")), "a>c b>a c>a, -")

    def test_what_is_handed_in_stays_as_it_was(self):
        road = list(EIGHT_OF_THREE[::-1])
        before = copy.deepcopy(road)
        shown = shown_road(road)
        self.assertEqual(road, before)
        road.pop()
        self.assertEqual(shown, shown_road(before))


if __name__ == "__main__":
    unittest.main()
