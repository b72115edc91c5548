"""Settling: points 1 to 3, 12 and 17, and the interface of losspact/settling.py."""

import copy
import inspect
import unittest

from by_words import (
    CHAIN_OF_FOUR, CHAIN_OF_THREE, FOUR, JUST_FEW_ENOUGH, ONE_SPEAKS, SMALL_ROADS, STARTS_OF_FOUR, STARTS_OF_THREE,
    STARTS_OF_THREE_VALUES, STARTS_OF_TWO, THREE, TOO_MANY, TWO,
    first_failing, has_table, runs_of, serving_table, settled_by_words, view_by_spots,
)
from losspact.errors import PactError, TooMany
from losspact.pacts import fails, pact
from losspact.roads import read_road
from losspact.settling import settled

SIXTY = 10 ** 60 - 1
# In each round one letter alone comes, so that both hands know each weather: every run may have a value of its own.
ONE_COMES = TWO[1:3]


def table_by(runs, value):
    """The table that has for each view in a run the value that the function tells of the run."""
    return {view_by_spots(run, hand): value(run) for run in runs for hand in range(len(run[0]))}


def with_other_views(hands, road, rounds, starts, table):
    """The table with views besides, of other rounds, weathers and starts."""
    others = [
        *runs_of(starts, road, rounds + 1),
        *runs_of(starts, road, max(rounds - 1, 0)),
        *runs_of(starts, [(), ((0, 1), (1, 0))], rounds),
        *runs_of([tuple(range(70, 70 + hands))], road, rounds),
    ]
    return {**table_by(others, lambda run: 77), **table}


class SettlingCase(unittest.TestCase):
    def assert_settled(self, hands, road, rounds, starts, table, told):
        """Holds the answers against a dict from starts to the rounds of each hand, for every row of weathers."""
        runs = runs_of(starts, road, rounds)
        self.assertIsNone(first_failing(runs, table))
        for number, run in enumerate(runs):
            for hand in range(hands):
                with self.subTest(run=run, hand=hand):
                    self.assertEqual(settled(hands, road, rounds, starts, table, number, hand), told[run[0]][hand])


class InterfaceTest(unittest.TestCase):
    def test_arguments(self):
        self.assertEqual(
            list(inspect.signature(settled).parameters),
            ["hands", "road", "rounds", "starts", "table", "number", "hand"],
        )


class WrittenExamplesTest(SettlingCase):
    def test_no_rounds(self):
        table = {(0, (0, None), ()): 1, (1, (None, 1), ()): 1, (0, (2, None), ()): 1, (0, (5, None), ()): 5}
        table[(1, (None, 5), ())] = 5
        starts = [(0, 1), (2, 1), (5, 5)]
        self.assert_settled(2, TWO, 0, starts, table, {start: (0, 0) for start in starts})

    def test_one_value_for_all_runs(self):
        starts = [(4, 7), (7, 7), (7, 5)]
        for road, rounds in ((TWO, 1), (TWO, 2), ([()], 5)):
            table = table_by(runs_of(starts, road, rounds), lambda run: 7)
            self.assert_settled(2, road, rounds, starts, table, {start: (0, 0) for start in starts})

    def test_the_value_of_one_hand(self):
        for rounds in range(1, 6):
            table = table_by(runs_of(STARTS_OF_TWO, [()], rounds), lambda run: run[0][0])
            self.assert_settled(2, [()], rounds, STARTS_OF_TWO, table, {start: (0, 1) for start in STARTS_OF_TWO})
            table = table_by(runs_of(STARTS_OF_TWO, [()], rounds), lambda run: run[0][1])
            self.assert_settled(2, [()], rounds, STARTS_OF_TWO, table, {start: (1, 0) for start in STARTS_OF_TWO})

    def test_the_greatest_value(self):
        # A hand that begins with the greatest value knows from the beginning that it will be taken.
        table = table_by(runs_of(STARTS_OF_TWO, [()], 2), lambda run: max(run[0]))
        told = {(0, 0): (1, 1), (0, 1): (1, 0), (1, 0): (0, 1), (1, 1): (0, 0)}
        self.assert_settled(2, [()], 2, STARTS_OF_TWO, table, told)

    def test_what_is_said_further(self):
        for rounds in (2, 3, 4, 5):
            table = table_by(runs_of(STARTS_OF_THREE, [CHAIN_OF_THREE], rounds), lambda run: run[0][0])
            told = {start: (0, 1, 2) for start in STARTS_OF_THREE}
            self.assert_settled(3, [CHAIN_OF_THREE], rounds, STARTS_OF_THREE, table, told)
        for rounds in (3, 4, 5):
            table = table_by(runs_of(STARTS_OF_FOUR, [CHAIN_OF_FOUR], rounds), lambda run: run[0][0])
            told = {start: (0, 1, 2, 3) for start in STARTS_OF_FOUR}
            self.assert_settled(4, [CHAIN_OF_FOUR], rounds, STARTS_OF_FOUR, table, told)

    def test_behind_all_rounds_alone(self):
        # The last round's weather tells whose value is taken.
        for rounds in range(1, 6):
            runs = runs_of([(0, 1), (1, 0)], ONE_COMES, rounds)
            table = table_by(runs, lambda run: run[0][ONE_COMES.index(run[1][-1])])
            self.assert_settled(
                2, ONE_COMES, rounds, [(0, 1), (1, 0)], table, {(0, 1): (rounds, rounds), (1, 0): (rounds, rounds)},
            )

    def test_behind_each_number_of_rounds(self):
        # One round's weather tells whose value is taken, whichever it is.
        for place in range(5):
            runs = runs_of([(3, -3)], ONE_COMES, 5)
            table = table_by(runs, lambda run: run[0][ONE_COMES.index(run[1][place])])
            self.assert_settled(2, ONE_COMES, 5, [(3, -3)], table, {(3, -3): (place + 1, place + 1)})

    def test_unlike_runs_settle_behind_unlike_rounds(self):
        # 9 is taken, but where hand a's letter comes in the first round and hand b's in the second.
        runs = runs_of([(0, 9)], ONE_COMES, 3)
        table = table_by(runs, lambda run: 0 if run[1][:2] == (TWO[2], TWO[1]) else 9)
        self.assertIsNone(first_failing(runs, table))
        for number in range(len(runs)):
            first_comes = number // 4 == ONE_COMES.index(TWO[2])
            for hand in range(2):
                self.assertEqual(settled(2, ONE_COMES, 3, [(0, 9)], table, number, hand), 2 if first_comes else 1)

    def test_one_of_several_runs_parts(self):
        # Of three runs that look the same to hand a at first two have the same value, the third another one.
        starts = [(0, 1), (0, 2), (0, 3)]
        table = table_by(runs_of(starts, [()], 1), lambda run: 0 if run[0][1] < 3 else 3)
        self.assert_settled(2, [()], 1, starts, table, {(0, 1): (1, 0), (0, 2): (1, 0), (0, 3): (1, 0)})
        self.assert_settled(2, [()], 1, starts[:2], table, {(0, 1): (0, 0), (0, 2): (0, 0)})

    def test_values_below_nought_and_of_sixty_figures(self):
        starts = [(SIXTY, -SIXTY), (SIXTY, SIXTY - 1), (-SIXTY, -SIXTY)]
        table = table_by(runs_of(starts, [()], 1), lambda run: run[0][1])
        self.assert_settled(2, [()], 1, starts, table, {starts[0]: (1, 0), starts[1]: (1, 0), starts[2]: (0, 0)})


class ByTheWordsTest(SettlingCase):
    def test_small_roads(self):
        told_kinds = {}
        for hands, road, rounds, starts in SMALL_ROADS:
            runs = runs_of(starts, road, rounds)
            if has_table(runs):
                for shift in (0, 1, 2):
                    self.assert_by_the_words(hands, road, rounds, starts, serving_table(runs, shift), told_kinds)
        self.assertGreater(told_kinds[0], 100)
        self.assertGreater(told_kinds[1], 100)
        self.assertGreater(told_kinds[2], 20)

    def assert_by_the_words(self, hands, road, rounds, starts, table, told_kinds):
        runs = runs_of(starts, road, rounds)
        pairs = [(number, hand) for number in range(len(runs)) for hand in range(hands)]
        for number, hand in pairs[::1 + len(pairs) // 12]:
            with self.subTest(hands=hands, road=road, rounds=rounds, starts=starts, number=number, hand=hand):
                told = settled(hands, road, rounds, starts, table, number, hand)
                self.assertIs(type(told), int)
                self.assertEqual(told, settled_by_words(runs, table, number, hand))
                told_kinds[told] = told_kinds.get(told, 0) + 1

    def test_more_rounds(self):
        told_kinds = {}
        for hands, road, rounds, starts in (
            (2, ONE_COMES, 3, STARTS_OF_TWO),
            (2, ONE_COMES, 4, STARTS_OF_TWO),
            (2, [TWO[3], TWO[0]], 3, [(0, 1), (1, 1), (2, 1)]),
            (2, TWO[:2], 4, STARTS_OF_TWO[1:]),
            (3, ONE_SPEAKS[:2], 3, STARTS_OF_THREE[2:6]),
            (3, THREE[1:3], 3, [(0, 1, 2), (1, 1, 2), (0, 1, 1)]),
            (4, FOUR[:2], 3, [(0, 1, 2, 3), (3, 2, 1, 0), (3, 2, 2, 3)]),
        ):
            runs = runs_of(starts, road, rounds)
            self.assertTrue(has_table(runs))
            for shift in range(4):
                table = serving_table(runs, shift)
                self.assert_by_the_words(hands, road, rounds, starts, table, told_kinds)
        self.assertTrue({0, 1, 2, 3, 4} <= set(told_kinds))

    def test_tables_of_pacts(self):
        for hands, road, rounds, starts in SMALL_ROADS[::2]:
            told = pact(hands, road, rounds, starts)
            if told[0] == "table":
                self.assert_by_the_words(hands, road, rounds, starts, told[1], {})

    def test_views_besides(self):
        more = 0
        for hands, road, rounds, starts in SMALL_ROADS[::2]:
            runs = runs_of(starts, road, rounds)
            if has_table(runs):
                table = serving_table(runs, 1)
                whole = with_other_views(hands, road, rounds, starts, table)
                more += len(whole) > len(table)
                self.assertIsNone(fails(hands, road, rounds, starts, whole))
                for number in range(0, len(runs), 1 + len(runs) // 5):
                    for hand in range(hands):
                        self.assertEqual(
                            settled(hands, road, rounds, starts, whole, number, hand),
                            settled_by_words(runs, table, number, hand),
                        )
        self.assertGreater(more, 20)


class BoundsTest(SettlingCase):
    def test_just_few_enough(self):
        hands, road, rounds, starts = JUST_FEW_ENOUGH[1]
        table = table_by(runs_of(starts, road, rounds), lambda run: run[0][1])
        for number in (0, 1, 2999):
            self.assertEqual(settled(hands, road, rounds, starts, table, number, 1), 0)
        # Hand a's letters always come: 3,000 runs of three rounds, and each hand takes hand a's value.
        road = read_road(3, "-, b>a, b>c, c>a, b>a c>b")
        starts = STARTS_OF_THREE_VALUES[:24]
        runs = runs_of(starts, road, 3)
        self.assertEqual(len(runs), 3000)
        table = table_by(runs, lambda run: run[0][0])
        for number in (0, 1500, 2999):
            for hand, told in ((0, 0), (1, 1), (2, 1)):
                self.assertEqual(settled(3, road, 3, starts, table, number, hand), told)

    def test_too_many_ahead_of_any_look_at_the_table(self):
        for hands, road, rounds, starts, many in TOO_MANY:
            for table in ({}, {"no view": None}, {(0, (0, None), ()): 0}):
                for number in (0, many - 1):
                    with self.subTest(many=many, table=table):
                        with self.assertRaises(PactError) as caught:
                            settled(hands, road, rounds, starts, table, number, hands - 1)
                        self.assertEqual(type(caught.exception), TooMany)

    def test_what_is_handed_in_stays_as_it_was(self):
        road, starts = list(ONE_COMES), list(STARTS_OF_TWO)
        table = serving_table(runs_of(starts, road, 2), 1)
        before = copy.deepcopy((road, starts, list(table.items())))
        for number in range(16):
            for hand in range(2):
                settled(2, road, 2, starts, table, number, hand)
        self.assertEqual((road, starts, list(table.items())), before)


if __name__ == "__main__":
    unittest.main()
