"""Callers: points 1 to 3 and 16, and the interface of losspact/callers.py."""

import copy
import inspect
import itertools
import unittest

from by_words import (
    CHAIN_OF_FOUR, CHAIN_OF_THREE, EIGHT, FIVE_OF_THREE, FOUR, ONE_SPEAKS, SMALL_ROADS, THREE, TWO,
    callers_of_rows, has_table, rows_of, rows_parts_of, runs_of,
)
from losspact.callers import callers, weather_parts
from losspact.errors import PactError, TooMany
from losspact.pacts import fails, pact
from losspact.parts import parts
from losspact.roads import read_road
from losspact.runs import all_starts

NOTHING, ONE_LOST, OTHER_LOST, BOTH_LOST = TWO
# Every letter of four hands may be lost or not: 4,096 weathers.
ALL_LETTERS = [(start, goal) for start in range(4) for goal in range(4) if start != goal]
ALL_WEATHERS = [
    weather for many in range(len(ALL_LETTERS) + 1) for weather in itertools.combinations(ALL_LETTERS, many)
]


def roads_without_starts():
    """Tuples (hands, road, rounds), each once, that the words can still be held against."""
    told = []
    for hands, road, rounds, starts in SMALL_ROADS:
        if (hands, road, rounds) not in told:
            told.append((hands, road, rounds))
    for road in (TWO, TWO[1:], TWO[1:3], [NOTHING, BOTH_LOST]):
        told.append((2, road, 3))
    told.append((2, TWO[1:3], 5))
    told.append((3, THREE[1:], 3))
    told.append((3, FIVE_OF_THREE, 2))
    told.append((3, [ONE_SPEAKS[1], CHAIN_OF_THREE, THREE[3]], 3))
    told.append((4, FOUR, 3))
    told.append((4, EIGHT, 2))
    return told


ROADS = roads_without_starts()


class CallersCase(unittest.TestCase):
    def assert_too_many(self, function, *arguments):
        with self.assertRaises(PactError) as caught:
            function(*arguments)
        self.assertEqual(type(caught.exception), TooMany)


class InterfaceTest(unittest.TestCase):
    def test_arguments(self):
        for function in (weather_parts, callers):
            with self.subTest(function=function.__name__):
                self.assertEqual(list(inspect.signature(function).parameters), ["hands", "road", "rounds"])


class WrittenExamplesTest(CallersCase):
    def assert_told(self, hands, road, rounds, told_parts, told_callers):
        self.assertEqual(weather_parts(hands, road, rounds), told_parts)
        self.assertEqual(callers(hands, road, rounds), told_callers)

    def test_no_rounds(self):
        # There is one row, the empty one, and nobody hears of another hand.
        for hands, road in ((2, TWO), (2, [NOTHING]), (3, THREE), (4, FOUR), (4, EIGHT)):
            self.assert_told(hands, road, 0, [[0]], [[]])

    def test_one_weather(self):
        for rounds in range(1, 6):
            self.assert_told(2, [NOTHING], rounds, [[0]], [[0, 1]])
            self.assert_told(3, [()], rounds, [[0]], [[0, 1, 2]])
            self.assert_told(4, [()], rounds, [[0]], [[0, 1, 2, 3]])
            self.assert_told(2, [ONE_LOST], rounds, [[0]], [[1]])
            self.assert_told(2, [OTHER_LOST], rounds, [[0]], [[0]])
            self.assert_told(2, [BOTH_LOST], rounds, [[0]], [[]])

    def test_one_round_of_two_hands(self):
        self.assert_told(2, [NOTHING, ONE_LOST], 1, [[0, 1]], [[1]])
        self.assert_told(2, [OTHER_LOST, NOTHING], 1, [[0, 1]], [[0]])
        self.assert_told(2, [ONE_LOST, OTHER_LOST], 1, [[0], [1]], [[1], [0]])
        self.assert_told(2, [OTHER_LOST, ONE_LOST], 1, [[0], [1]], [[0], [1]])
        self.assert_told(2, [NOTHING, BOTH_LOST], 1, [[0], [1]], [[0, 1], []])
        self.assert_told(2, [BOTH_LOST, NOTHING], 1, [[0], [1]], [[], [0, 1]])
        self.assert_told(2, [ONE_LOST, BOTH_LOST], 1, [[0, 1]], [[]])
        self.assert_told(2, TWO[:3], 1, [[0, 1, 2]], [[]])
        self.assert_told(2, TWO, 1, [[0, 1, 2, 3]], [[]])

    def test_two_rounds_of_two_hands(self):
        # In each round one letter alone comes: both hands know all weathers.
        self.assert_told(2, [ONE_LOST, OTHER_LOST], 2, [[0], [1], [2], [3]], [[1], [0, 1], [0, 1], [0]])
        # Hand b hears nothing: hand a can't let it know what came.
        self.assert_told(2, [ONE_LOST, BOTH_LOST], 2, [[0, 1, 2, 3]], [[]])
        # Whether anything came in a round both hands know.
        self.assert_told(2, [BOTH_LOST, NOTHING], 2, [[0], [1], [2], [3]], [[], [0, 1], [0, 1], [0, 1]])

    def test_what_is_said_further(self):
        self.assert_told(3, [CHAIN_OF_THREE], 1, [[0]], [[]])
        self.assert_told(3, [CHAIN_OF_THREE], 2, [[0]], [[0]])
        self.assert_told(4, [CHAIN_OF_FOUR], 2, [[0]], [[]])
        self.assert_told(4, [CHAIN_OF_FOUR], 3, [[0]], [[0]])
        self.assert_told(4, [CHAIN_OF_FOUR], 5, [[0]], [[0]])
        # Round about: each hand's letter comes to the one behind it alone.
        ring = read_road(4, "a>c a>d b>a b>d c>a c>b d>b d>c")
        self.assert_told(4, ring, 2, [[0]], [[]])
        self.assert_told(4, ring, 3, [[0]], [[0, 1, 2, 3]])

    def test_parts_that_lie_through_one_another(self):
        # In the first and third weather the same comes to hand a, in the second and fourth nothing does.
        road = read_road(3, "-, a>b a>c b>a b>c c>a c>b, a>b, a>c b>a b>c c>a c>b")
        self.assert_told(3, road, 1, [[0, 2], [1, 3]], [[1, 2], []])
        self.assert_told(3, [road[1], road[0], road[2], road[3]], 1, [[0, 3], [1, 2]], [[], [1, 2]])

    def test_one_hand_speaks(self):
        self.assert_told(3, ONE_SPEAKS, 1, [[0], [1], [2]], [[0], [1], [2]])
        self.assert_told(3, [ONE_SPEAKS[2], ONE_SPEAKS[0]], 1, [[0], [1]], [[2], [0]])

    def test_the_same_came_to_unlike_hands(self):
        # A letter of c alone comes to a in the one and to b in the other: that joins nothing.
        road = read_road(3, "a>b b>a c>b, a>b a>c b>a c>a")
        self.assert_told(3, road, 1, [[0], [1]], [[], []])
        # Here nothing comes to c in both.
        road = read_road(3, "a>b a>c b>a b>c c>b, a>b a>c b>a b>c c>a")
        self.assert_told(3, road, 1, [[0, 1]], [[]])


class ByTheWordsTest(CallersCase):
    def test_parts_of_rows(self):
        several = 0
        for hands, road, rounds in ROADS:
            with self.subTest(hands=hands, road=road, rounds=rounds):
                told = weather_parts(hands, road, rounds)
                self.assertEqual(told, rows_parts_of(hands, rows_of(road, rounds)))
                several += 1 < len(told) < len(road) ** rounds
        self.assertGreater(several, 5)

    def test_callers_of_parts(self):
        told_lists = []
        for hands, road, rounds in ROADS:
            with self.subTest(hands=hands, road=road, rounds=rounds):
                rows = rows_of(road, rounds)
                told = callers(hands, road, rounds)
                self.assertEqual(told, [
                    callers_of_rows(hands, [rows[number] for number in part]) for part in rows_parts_of(hands, rows)
                ])
                told_lists.extend(told)
        self.assertTrue(all(some in told_lists for some in ([], [0], [1], [2], [0, 1], [1, 2], [0, 1, 2, 3])))

    def test_parts_of_runs_with_one_start(self):
        # With one of the starts alone the values tell nothing, so the rows hang together as the runs do.
        for hands, road, rounds in ROADS:
            for start in ((0,) * hands, tuple(range(hands))):
                self.assertEqual(weather_parts(hands, road, rounds), parts(hands, road, rounds, [start]))

    def test_a_table_just_where_each_part_has_a_caller(self):
        seen = {True: 0, False: 0}
        for hands, road, rounds in ROADS:
            for values in ([0, 1], [5, -7, 2]):
                starts = all_starts(hands, values)
                if len(starts) * len(road) ** rounds <= 1000:
                    with self.subTest(hands=hands, road=road, rounds=rounds, values=values):
                        called = all(len(some) > 0 for some in callers(hands, road, rounds))
                        told = pact(hands, road, rounds, starts)
                        self.assertEqual(told[0] == "table", called)
                        seen[called] += 1
        self.assertGreater(min(seen.values()), 20)

    def test_a_table_just_where_each_part_has_a_caller_by_the_words(self):
        for hands, road, rounds in ROADS:
            starts = list(itertools.product([0, 1], repeat=hands))
            if len(starts) * len(road) ** rounds <= 40:
                called = all(len(some) > 0 for some in callers(hands, road, rounds))
                self.assertEqual(has_table(runs_of(starts, road, rounds)), called, (hands, road, rounds))

    def test_the_callers_values_serve(self):
        # In each part of the runs all hands may take the value of a caller of the weathers.
        for hands, road, rounds in ((2, TWO[1:3], 2), (3, ONE_SPEAKS, 2), (4, [CHAIN_OF_FOUR], 3), (2, TWO[:2], 3)):
            starts = all_starts(hands, [3, 4])
            rows = rows_of(road, rounds)
            caller_of = {}
            for part, told in zip(weather_parts(hands, road, rounds), callers(hands, road, rounds)):
                caller_of.update({rows[number]: told[-1] for number in part})
            table = {}
            told = pact(hands, road, rounds, starts)[1]
            for run in runs_of(starts, road, rounds):
                for view in [view for view in told if self.is_of(view, run)]:
                    table[view] = run[0][caller_of[run[1]]]
            self.assertEqual(set(table), set(told))
            self.assertIsNone(fails(hands, road, rounds, starts, table))

    def is_of(self, view, run):
        hand, values, came = view
        for seen, value in zip(values, run[0]):
            if seen not in (None, value):
                return False
        for in_round, weather in zip(came, run[1]):
            for goal, starts in enumerate(in_round):
                if starts is not None and any(
                    (start in starts) == ((start, goal) in weather) for start in range(len(values)) if start != goal
                ):
                    return False
        return True


class KindsTest(CallersCase):
    def test_kinds(self):
        for hands, road, rounds in ROADS[::7]:
            for told in (weather_parts(hands, road, rounds), callers(hands, road, rounds)):
                self.assertIs(type(told), list)
                for some in told:
                    self.assertIs(type(some), list)
                    self.assertLessEqual({type(number) for number in some}, {int})
                    self.assertEqual(some, sorted(set(some)))

    def test_what_is_handed_in_and_told_stays_apart(self):
        for function in (weather_parts, callers):
            road = [ONE_LOST, OTHER_LOST]
            told = function(2, road, 2)
            self.assertEqual(road, [ONE_LOST, OTHER_LOST])
            kept = copy.deepcopy(told)
            told[0].append(99)
            self.assertEqual(told[1:], kept[1:])
            told.pop()
            self.assertEqual(function(2, road, 2), kept)
            told = function(2, road, 2)
            function(2, road, 3)
            road.clear()
            self.assertEqual(told, kept)


class TooManyTest(CallersCase):
    def test_few_enough(self):
        # Seven weathers and four rounds are 2,401 rows; four weathers and five rounds 1,024.
        for hands, road, rounds in ((4, EIGHT[:7], 4), (2, TWO, 5), (4, EIGHT, 3), (3, FIVE_OF_THREE, 4)):
            told = weather_parts(hands, road, rounds)
            self.assertEqual(sorted(number for part in told for number in part), list(range(len(road) ** rounds)))
            self.assertEqual([part[0] for part in told], sorted(part[0] for part in told))
            self.assertEqual(len(callers(hands, road, rounds)), len(told))

    def test_too_many(self):
        for hands, road, rounds in (
            (3, FIVE_OF_THREE, 5), (4, EIGHT, 4), (4, EIGHT, 5), (4, EIGHT[:6], 5), (4, EIGHT[:7], 5),
        ):
            with self.subTest(hands=hands, road=road, rounds=rounds):
                self.assert_too_many(weather_parts, hands, road, rounds)
                self.assert_too_many(callers, hands, road, rounds)

    def test_just_around_the_bound(self):
        told = weather_parts(4, ALL_WEATHERS[:3000], 1)
        self.assertEqual(sorted(number for part in told for number in part), list(range(3000)))
        self.assertEqual(len(callers(4, ALL_WEATHERS[:3000], 1)), len(told))
        self.assert_too_many(weather_parts, 4, ALL_WEATHERS[:3001], 1)
        self.assert_too_many(callers, 4, ALL_WEATHERS[:3001], 1)


if __name__ == "__main__":
    unittest.main()
