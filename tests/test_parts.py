"""Parts: points 1 to 3, 11 and 12, and the interface of losspact/parts.py."""

import copy
import inspect
import unittest

from by_words import (
    CHAIN_OF_FOUR, JUST_FEW_ENOUGH, SMALL_ROADS, STARTS_OF_TWO, TOO_MANY, TWO, parts_of, runs_of, wrong_step,
)
from losspact.errors import PactError, TooMany
from losspact.parts import parts, row_between

SIXTY = 10 ** 60 - 1


class InterfaceTest(unittest.TestCase):
    def test_arguments(self):
        for function, names in (
            (parts, ["hands", "road", "rounds", "starts"]),
            (row_between, ["hands", "road", "rounds", "starts", "one", "other"]),
        ):
            with self.subTest(function=function.__name__):
                self.assertEqual(list(inspect.signature(function).parameters), names)


class PartsTest(unittest.TestCase):
    def test_one_run_alone(self):
        self.assertEqual(parts(2, [()], 0, [(0, 1)]), [[0]])
        self.assertEqual(parts(3, [()], 4, [(0, 1, 0)]), [[0]])
        self.assertEqual(parts(4, [CHAIN_OF_FOUR], 5, [(1, 1, 1, 1)]), [[0]])

    def test_no_rounds(self):
        self.assertEqual(parts(2, TWO, 0, STARTS_OF_TWO), [[0, 1, 2, 3]])
        self.assertEqual(parts(2, TWO, 0, [(0, 1), (1, 0)]), [[0], [1]])
        self.assertEqual(parts(2, TWO, 0, [(0, 0), (1, 1), (0, 1)]), [[0, 1, 2]])
        # A value is a hand's own: the same one with another hand joins nothing.
        starts = [(0, 1, 2), (2, 0, 1), (3, 3, 2), (4, 0, 4), (1, 2, 0)]
        self.assertEqual(parts(3, [()], 0, starts), [[0, 2], [1, 3], [4]])
        self.assertEqual(parts(4, [()], 0, [(0, 0, 0, 0), (1, 1, 1, 1), (2, 2, 2, 0), (2, 1, 3, 3)]), [[0, 1, 2, 3]])
        self.assertEqual(parts(2, [()], 0, [(SIXTY, SIXTY), (SIXTY - 1, -SIXTY)]), [[0], [1]])

    def test_one_round_of_two_hands(self):
        self.assertEqual(parts(2, [()], 1, STARTS_OF_TWO), [[0], [1], [2], [3]])
        self.assertEqual(parts(2, [((0, 1),)], 1, STARTS_OF_TWO), [[0, 2], [1, 3]])
        self.assertEqual(parts(2, [((1, 0),)], 1, STARTS_OF_TWO), [[0, 1], [2, 3]])
        self.assertEqual(parts(2, [((0, 1), (1, 0))], 1, STARTS_OF_TWO), [[0, 1, 2, 3]])
        self.assertEqual(parts(2, [(), ((0, 1),)], 1, STARTS_OF_TWO), [[0, 1, 4, 5], [2, 3, 6, 7]])
        self.assertEqual(parts(2, [((0, 1),), ((1, 0),)], 1, STARTS_OF_TWO), [[0, 4], [1, 3], [2, 6], [5, 7]])
        self.assertEqual(parts(2, [(), ((0, 1),), ((1, 0),)], 1, STARTS_OF_TWO), [list(range(12))])

    def test_by_the_words_of_the_point(self):
        several = 0
        for hands, road, rounds, starts in SMALL_ROADS:
            with self.subTest(hands=hands, road=road, rounds=rounds, starts=starts):
                told = parts(hands, road, rounds, starts)
                self.assertEqual(told, parts_of(runs_of(starts, road, rounds)))
                several += 1 < len(told) < len(starts) * len(road) ** rounds
        self.assertGreater(several, 20)

    def test_kinds(self):
        told = parts(2, TWO[1:3], 2, STARTS_OF_TWO)
        self.assertIs(type(told), list)
        for part in told:
            self.assertIs(type(part), list)
            self.assertEqual({type(number) for number in part}, {int})

    def test_just_few_enough(self):
        for hands, road, rounds, starts in JUST_FEW_ENOUGH:
            told = parts(hands, road, rounds, starts)
            self.assertEqual(sorted(number for part in told for number in part), list(range(3000)))
            self.assertEqual([part[0] for part in told], sorted(min(part) for part in told))
        # All runs of the second road have values of their own.
        self.assertEqual(told, [[number] for number in range(3000)])

    def test_all_runs_joined_at_once(self):
        starts = [(0, number) for number in range(3000)]
        self.assertEqual(parts(2, [()], 0, starts), [list(range(3000))])
        # A chain: each run is joined with the one behind it alone, so steps go on for long.
        starts = [((number + 1) // 2, number // 2) for number in range(3000)]
        self.assertEqual(parts(2, [()], 0, starts), [list(range(3000))])
        row = row_between(2, [()], 0, starts, 0, 2999)
        self.assertIsNone(wrong_step(runs_of(starts, [()], 0), 0, row))
        self.assertEqual(row[-1][1], 2999)

    def test_too_many(self):
        for hands, road, rounds, starts, many in TOO_MANY:
            with self.subTest(many=many):
                with self.assertRaises(PactError) as caught:
                    parts(hands, road, rounds, starts)
                self.assertEqual(type(caught.exception), TooMany)

    def test_what_is_handed_in_and_told_stays_apart(self):
        road, starts = [((0, 1),), ((1, 0),)], [(0, 1), (1, 1), (0, 0)]
        before = copy.deepcopy((road, starts))
        told = parts(2, road, 1, starts)
        kept = copy.deepcopy(told)
        self.assertEqual((road, starts), before)
        told[0].append(99)
        self.assertEqual(told[1:], kept[1:])
        told.pop()
        self.assertEqual(parts(2, road, 1, starts), kept)
        told = parts(2, road, 1, starts)
        road.pop()
        starts.clear()
        self.assertEqual(told, kept)


class RowBetweenTest(unittest.TestCase):
    def assert_row(self, runs, one, other, row):
        self.assertIs(type(row), list)
        for step in row:
            self.assertIs(type(step), tuple)
            self.assertEqual([type(part) for part in step], [int, int])
        self.assertIsNone(wrong_step(runs, one, row))
        self.assertEqual(row[-1][1] if row else one, other)

    def test_written_examples(self):
        # Nothing comes: hand b's value tells the runs 0 and 2 from 1 and 3, hand a's 0 and 1 from 2 and 3.
        nothing = [((0, 1), (1, 0))]
        self.assertEqual(row_between(2, nothing, 1, [(0, 0), (0, 1)], 0, 1)[-1], (0, 1))
        self.assertEqual(row_between(2, nothing, 1, [(0, 0), (1, 0)], 1, 0)[-1], (1, 0))
        self.assert_row(runs_of(STARTS_OF_TWO, nothing, 1), 0, 3, row_between(2, nothing, 1, STARTS_OF_TWO, 0, 3))
        self.assertIsNone(row_between(2, [()], 1, STARTS_OF_TWO, 0, 3))
        self.assertIsNone(row_between(2, [()], 0, [(0, 1), (1, 0)], 1, 0))

    def test_from_a_run_to_itself(self):
        for hands, road, rounds, starts in SMALL_ROADS[::4]:
            for number in range(len(starts) * len(road) ** rounds):
                self.assertEqual(row_between(hands, road, rounds, starts, number, number), [])

    def test_every_two_runs_of_small_roads(self):
        rows = 0
        for hands, road, rounds, starts in SMALL_ROADS:
            runs = runs_of(starts, road, rounds)
            part_of = {number: part for part in parts_of(runs) for number in part}
            # Of the greater roads some pairs, spread over all of them.
            pairs = [(one, other) for one in range(len(runs)) for other in range(len(runs))]
            for one, other in pairs[::1 + len(pairs) // 40]:
                with self.subTest(hands=hands, road=road, rounds=rounds, starts=starts, one=one, other=other):
                    row = row_between(hands, road, rounds, starts, one, other)
                    if other in part_of[one]:
                        self.assert_row(runs, one, other, row)
                        rows += one != other
                    else:
                        self.assertIsNone(row)
        self.assertGreater(rows, 100)

    def test_just_few_enough(self):
        hands, road, rounds, starts = JUST_FEW_ENOUGH[0]
        runs = runs_of(starts, road, rounds)
        self.assert_row(runs, 2999, 0, row_between(hands, road, rounds, starts, 2999, 0))
        hands, road, rounds, starts = JUST_FEW_ENOUGH[1]
        self.assertIsNone(row_between(hands, road, rounds, starts, 2999, 0))

    def test_too_many(self):
        for hands, road, rounds, starts, many in TOO_MANY:
            for one, other in ((0, 1), (many - 1, 0), (0, 0)):
                with self.subTest(many=many, one=one, other=other):
                    with self.assertRaises(PactError) as caught:
                        row_between(hands, road, rounds, starts, one, other)
                    self.assertEqual(type(caught.exception), TooMany)

    def test_what_is_handed_in_and_told_stays_apart(self):
        road, starts = [(), ((0, 1),), ((1, 0),)], list(STARTS_OF_TWO)
        before = copy.deepcopy((road, starts))
        told = row_between(2, road, 1, starts, 0, 11)
        kept = copy.deepcopy(told)
        self.assertEqual((road, starts), before)
        told.clear()
        told.append((0, 0))
        self.assert_row(runs_of(starts, road, 1), 0, 11, row_between(2, road, 1, starts, 0, 11))
        told = row_between(2, road, 1, starts, 0, 11)
        self.assertEqual(len(told), len(kept))
        road.pop()
        starts.clear()
        self.assertEqual(told[-1][1], 11)

    def test_an_empty_row_is_the_askers_own(self):
        told = row_between(2, TWO, 1, STARTS_OF_TWO, 3, 3)
        told.append((0, 1))
        self.assertEqual(row_between(2, TWO, 1, STARTS_OF_TWO, 3, 3), [])
        self.assertEqual(row_between(2, TWO, 1, STARTS_OF_TWO, 5, 5), [])


if __name__ == "__main__":
    unittest.main()
