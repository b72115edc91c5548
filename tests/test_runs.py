"""Runs by number: points 1 to 3, 9, 10 and 12, and the interface of losspact/runs.py."""

import copy
import inspect
import unittest

from by_words import EIGHT, FOUR, JUST_FEW_ENOUGH, SMALL_ROADS, THREE, TOO_MANY, TWO, runs_of
from losspact.errors import PactError, TooMany
from losspact.runs import all_runs, all_starts, many_runs, number_of, run_at

SIXTY = 10 ** 60 - 1


class InterfaceTest(unittest.TestCase):
    def test_arguments(self):
        for function, names in (
            (all_starts, ["hands", "values"]),
            (many_runs, ["road", "rounds", "starts"]),
            (run_at, ["road", "rounds", "starts", "number"]),
            (number_of, ["road", "rounds", "starts", "run"]),
            (all_runs, ["road", "rounds", "starts"]),
        ):
            with self.subTest(function=function.__name__):
                self.assertEqual(list(inspect.signature(function).parameters), names)


class AllStartsTest(unittest.TestCase):
    def test_two_hands(self):
        self.assertEqual(all_starts(2, [5]), [(5, 5)])
        self.assertEqual(all_starts(2, [0, 1]), [(0, 0), (0, 1), (1, 0), (1, 1)])
        self.assertEqual(
            all_starts(2, [0, 1, 2]), [(0, 0), (0, 1), (0, 2), (1, 0), (1, 1), (1, 2), (2, 0), (2, 1), (2, 2)]
        )

    def test_three_hands(self):
        self.assertEqual(all_starts(3, [-1]), [(-1, -1, -1)])
        self.assertEqual(
            all_starts(3, [0, 1]),
            [(0, 0, 0), (0, 0, 1), (0, 1, 0), (0, 1, 1), (1, 0, 0), (1, 0, 1), (1, 1, 0), (1, 1, 1)],
        )
        told = all_starts(3, [4, 5, 6])
        self.assertEqual(told, [(one, two, three) for one in (4, 5, 6) for two in (4, 5, 6) for three in (4, 5, 6)])

    def test_four_hands(self):
        self.assertEqual(all_starts(4, [0]), [(0, 0, 0, 0)])
        told = all_starts(4, [8, 9])
        self.assertEqual(len(told), 16)
        self.assertEqual(told[:3], [(8, 8, 8, 8), (8, 8, 8, 9), (8, 8, 9, 8)])
        self.assertEqual(told[8], (9, 8, 8, 8))
        told = all_starts(4, [0, 1, 2])
        self.assertEqual(len(told), 81)
        self.assertEqual(told, sorted(set(told)))

    def test_the_values_in_their_order_in_the_list(self):
        self.assertEqual(all_starts(2, [7, -2]), [(7, 7), (7, -2), (-2, 7), (-2, -2)])
        self.assertEqual(
            all_starts(2, [1, 2, 0]), [(1, 1), (1, 2), (1, 0), (2, 1), (2, 2), (2, 0), (0, 1), (0, 2), (0, 0)]
        )
        self.assertEqual(all_starts(3, [3, -3])[:3], [(3, 3, 3), (3, 3, -3), (3, -3, 3)])

    def test_values_of_sixty_figures(self):
        self.assertEqual(
            all_starts(2, [SIXTY, -SIXTY]), [(SIXTY, SIXTY), (SIXTY, -SIXTY), (-SIXTY, SIXTY), (-SIXTY, -SIXTY)]
        )
        self.assertEqual(all_starts(3, [SIXTY - 1, SIXTY])[1], (SIXTY - 1, SIXTY - 1, SIXTY))

    def test_kinds(self):
        for hands in (2, 3, 4):
            told = all_starts(hands, [1, 0])
            self.assertIs(type(told), list)
            for start in told:
                self.assertIs(type(start), tuple)
                self.assertEqual(len(start), hands)

    def test_somewhat_beyond_the_bounds(self):
        self.assertEqual(len(all_starts(5, [0, 1])), 32)
        self.assertEqual(all_starts(2, [3, 2, 1, 0])[:5], [(3, 3), (3, 2), (3, 1), (3, 0), (2, 3)])

    def test_what_is_handed_in_and_told_stays_apart(self):
        values = [2, 1]
        told = all_starts(2, values)
        self.assertEqual(values, [2, 1])
        values.append(0)
        self.assertEqual(told, [(2, 2), (2, 1), (1, 2), (1, 1)])
        told.pop()
        told.append("other")
        self.assertEqual(all_starts(2, [2, 1]), [(2, 2), (2, 1), (1, 2), (1, 1)])


class ManyRunsTest(unittest.TestCase):
    def test_many_runs(self):
        for road, rounds, starts, many in (
            ([()], 0, [(0, 0)], 1),
            ([()], 5, [(0, 0)], 1),
            ([()], 5, [(0, 0), (0, 1)], 2),
            (TWO, 0, [(0, 0), (0, 1), (1, 1)], 3),
            (TWO, 1, [(0, 0), (0, 1), (1, 1)], 12),
            (TWO, 3, [(0, 0), (0, 1), (1, 1)], 192),
            (THREE[:3], 2, [(0, 0, 0)], 9),
            (THREE[:2], 3, [(0, 0, 0)], 8),
            (EIGHT, 5, [(0, 0, 0, 0)], 32768),
        ):
            with self.subTest(road=road, rounds=rounds, starts=starts):
                told = many_runs(road, rounds, starts)
                self.assertEqual(told, many)
                self.assertIs(type(told), int)

    def test_more_than_can_be_told_at_once(self):
        for hands, road, rounds, starts, many in TOO_MANY:
            self.assertEqual(many_runs(road, rounds, starts), many)

    def test_somewhat_beyond_the_bounds(self):
        self.assertEqual(many_runs(EIGHT, 7, [(0, 0, 0, 0)]), 2097152)


class RunAtTest(unittest.TestCase):
    ROAD = [((1, 0),), (), ((0, 1),)]
    STARTS = [(7, 1), (-2, 7)]

    def test_no_rounds(self):
        self.assertEqual(run_at(self.ROAD, 0, self.STARTS, 0), ((7, 1), ()))
        self.assertEqual(run_at(self.ROAD, 0, self.STARTS, 1), ((-2, 7), ()))

    def test_the_start_counts_most_then_the_first_round(self):
        back, none, forth = self.ROAD
        for number, run in (
            (0, ((7, 1), (back, back))),
            (1, ((7, 1), (back, none))),
            (2, ((7, 1), (back, forth))),
            (3, ((7, 1), (none, back))),
            (5, ((7, 1), (none, forth))),
            (7, ((7, 1), (forth, none))),
            (8, ((7, 1), (forth, forth))),
            (9, ((-2, 7), (back, back))),
            (15, ((-2, 7), (forth, back))),
            (17, ((-2, 7), (forth, forth))),
        ):
            with self.subTest(number=number):
                self.assertEqual(run_at(self.ROAD, 2, self.STARTS, number), run)
                self.assertEqual(number_of(self.ROAD, 2, self.STARTS, run), number)

    def test_one_weather_and_one_start(self):
        self.assertEqual(run_at([((0, 1),)], 3, [(4, 5)], 0), ((4, 5), (((0, 1),),) * 3))
        self.assertEqual(number_of([((0, 1),)], 3, [(4, 5)], ((4, 5), (((0, 1),),) * 3)), 0)
        self.assertEqual(run_at([()], 5, [(1, 0), (0, 0), (0, 1)], 2), ((0, 1), ((),) * 5))
        self.assertEqual(number_of([()], 5, [(1, 0), (0, 0), (0, 1)], ((0, 1), ((),) * 5)), 2)

    def test_every_number_of_small_roads(self):
        for hands, road, rounds, starts in SMALL_ROADS:
            runs = runs_of(starts, road, rounds)
            self.assertEqual(many_runs(road, rounds, starts), len(runs))
            for number, run in enumerate(runs):
                self.assertEqual(run_at(road, rounds, starts, number), run)
                told = number_of(road, rounds, starts, run)
                self.assertEqual(told, number)
                self.assertIs(type(told), int)

    def test_by_the_sum_of_the_point(self):
        starts = [(place, 0, 0, 0) for place in (5, 3, 4, 1)]
        for start, row in ((0, (0, 0, 0, 1)), (2, (7, 0, 3, 5)), (3, (7, 7, 7, 7)), (1, (1, 0, 0, 0))):
            number = start * 8 ** 4 + row[0] * 8 ** 3 + row[1] * 8 ** 2 + row[2] * 8 + row[3]
            run = (starts[start], tuple(EIGHT[place] for place in row))
            self.assertEqual(run_at(EIGHT, 4, starts, number), run)
            self.assertEqual(number_of(EIGHT, 4, starts, run), number)

    def test_more_than_can_be_told_at_once(self):
        for hands, road, rounds, starts, many in TOO_MANY:
            for number in (0, 1, many // 2, many - 2, many - 1):
                run = run_at(road, rounds, starts, number)
                self.assertEqual(number_of(road, rounds, starts, run), number)
            self.assertEqual(run_at(road, rounds, starts, 0), (starts[0], (road[0],) * rounds))
            self.assertEqual(run_at(road, rounds, starts, many - 1), (starts[-1], (road[-1],) * rounds))

    def test_values_of_sixty_figures(self):
        starts = [(SIXTY, -SIXTY), (SIXTY - 1, -SIXTY)]
        self.assertEqual(run_at([()], 1, starts, 1), ((SIXTY - 1, -SIXTY), ((),)))
        self.assertEqual(number_of([()], 1, starts, ((SIXTY - 1, -SIXTY), ((),))), 1)

    def test_kinds(self):
        for rounds in (0, 1, 3):
            run = run_at(FOUR, rounds, [(1, 2, 3, 4)], 0)
            self.assertIs(type(run), tuple)
            self.assertEqual([type(part) for part in run], [tuple, tuple])
            self.assertEqual([len(part) for part in run], [4, rounds])

    def test_what_is_handed_in_stays_as_it_was(self):
        road, starts = copy.deepcopy(self.ROAD), copy.deepcopy(self.STARTS)
        run = run_at(road, 2, starts, 12)
        kept = copy.deepcopy(run)
        number_of(road, 2, starts, run)
        many_runs(road, 2, starts)
        self.assertEqual((road, starts), (self.ROAD, self.STARTS))
        road.pop(0)
        starts.clear()
        self.assertEqual(run, kept)


class AllRunsTest(unittest.TestCase):
    def test_written_examples(self):
        self.assertEqual(all_runs(TWO, 0, [(3, 4)]), [((3, 4), ())])
        self.assertEqual(all_runs([()], 2, [(3, 4), (1, 2)]), [((3, 4), ((), ())), ((1, 2), ((), ()))])
        self.assertEqual(all_runs([((0, 1),), ()], 2, [(1, 0), (0, 0)]), [
            ((1, 0), (((0, 1),), ((0, 1),))),
            ((1, 0), (((0, 1),), ())),
            ((1, 0), ((), ((0, 1),))),
            ((1, 0), ((), ())),
            ((0, 0), (((0, 1),), ((0, 1),))),
            ((0, 0), (((0, 1),), ())),
            ((0, 0), ((), ((0, 1),))),
            ((0, 0), ((), ())),
        ])

    def test_in_the_order_of_their_numbers(self):
        for hands, road, rounds, starts in SMALL_ROADS:
            told = all_runs(road, rounds, starts)
            self.assertIs(type(told), list)
            self.assertEqual(told, runs_of(starts, road, rounds))

    def test_just_few_enough(self):
        for hands, road, rounds, starts in JUST_FEW_ENOUGH:
            told = all_runs(road, rounds, starts)
            self.assertEqual(len(told), 3000)
            self.assertEqual(told, runs_of(starts, road, rounds))

    def test_too_many(self):
        for hands, road, rounds, starts, many in TOO_MANY:
            with self.subTest(many=many):
                with self.assertRaises(PactError) as caught:
                    all_runs(road, rounds, starts)
                self.assertEqual(type(caught.exception), TooMany)

    def test_what_is_handed_in_and_told_stays_apart(self):
        road, starts = [(), ((0, 1),)], [(1, 0), (0, 1)]
        told = all_runs(road, 1, starts)
        kept = copy.deepcopy(told)
        self.assertEqual((road, starts), ([(), ((0, 1),)], [(1, 0), (0, 1)]))
        road.append(((1, 0),))
        starts.pop()
        self.assertEqual(told, kept)
        told.clear()
        self.assertEqual(all_runs([(), ((0, 1),)], 1, [(1, 0), (0, 1)]), kept)


if __name__ == "__main__":
    unittest.main()
