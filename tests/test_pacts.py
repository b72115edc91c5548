"""Pacts: points 1 to 3 and 12 to 15, and the interface of losspact/pacts.py."""

import copy
import inspect
import itertools
import unittest

from by_words import (
    CHAIN_OF_FOUR, CHAIN_OF_THREE, EIGHT, FIVE_OF_THREE, JUST_FEW_ENOUGH, ONE_SPEAKS, SMALL_ROADS, STARTS_OF_FOUR,
    STARTS_OF_THREE, STARTS_OF_THREE_VALUES, STARTS_OF_TWO, THREE, TOO_MANY, TWO,
    common_value, first_failing, has_table, runs_of, some_table_serves, view_by_spots, wrong_step,
)
from losspact.errors import PactError, TooMany
from losspact.pacts import fails, fewest_rounds, pact
from losspact.roads import read_road

SIXTY = 10 ** 60 - 1
# One letter of a round may be lost, whichever: two hands never agree over such a road.
ONE_MAY_BE_LOST = TWO[:3]
# What hand b sends always comes.
ONE_SIDE = TWO[:2]


def views_of(runs):
    return {view_by_spots(run, hand) for run in runs for hand in range(len(run[0]))}


class PactCase(unittest.TestCase):
    def assert_too_many(self, function, *arguments):
        with self.assertRaises(PactError) as caught:
            function(*arguments)
        self.assertEqual(type(caught.exception), TooMany)

    def assert_table(self, runs, told):
        self.assertIs(type(told), tuple)
        self.assertEqual(len(told), 2)
        self.assertEqual(told[0], "table")
        self.assertIs(type(told[1]), dict)
        self.assertEqual(set(told[1]), views_of(runs))
        self.assertIsNone(first_failing(runs, told[1]))
        self.assertEqual({type(value) for value in told[1].values()}, {int})

    def assert_row(self, runs, told):
        self.assertIs(type(told), tuple)
        self.assertEqual(len(told), 3)
        self.assertEqual(told[0], "row")
        self.assertIs(type(told[1]), int)
        self.assertIn(told[1], range(len(runs)))
        self.assertIs(type(told[2]), list)
        for step in told[2]:
            self.assertIs(type(step), tuple)
            self.assertEqual([type(part) for part in step], [int, int])
        self.assertIsNone(wrong_step(runs, told[1], told[2]))
        self.assertFalse(common_value([runs[told[1]]] + [runs[number] for hand, number in told[2]]))


class InterfaceTest(unittest.TestCase):
    def test_arguments(self):
        for function, names in (
            (pact, ["hands", "road", "rounds", "starts"]),
            (fails, ["hands", "road", "rounds", "starts", "table"]),
            (fewest_rounds, ["hands", "road", "starts", "most"]),
        ):
            with self.subTest(function=function.__name__):
                self.assertEqual(list(inspect.signature(function).parameters), names)


class PactTest(PactCase):
    def test_the_only_table(self):
        self.assertEqual(pact(2, [()], 0, [(5, 5)]), ("table", {(0, (5, None), ()): 5, (1, (None, 5), ()): 5}))
        # Hand b hears nothing, so its own value is all that it can take.
        self.assertEqual(pact(2, [((0, 1),)], 1, [(0, 3), (3, 3), (0, 0), (3, 0)]), ("table", {
            (0, (0, 3), (((1,), None),)): 3,
            (0, (3, 3), (((1,), None),)): 3,
            (0, (0, 0), (((1,), None),)): 0,
            (0, (3, 0), (((1,), None),)): 0,
            (1, (None, 3), ((None, ()),)): 3,
            (1, (None, 0), ((None, ()),)): 0,
        }))

    def test_where_there_is_a_table(self):
        for hands, road, rounds, starts in (
            (2, [()], 1, STARTS_OF_TWO),
            (2, ONE_SIDE, 1, STARTS_OF_TWO),
            (2, TWO[1:3], 2, STARTS_OF_TWO),
            (2, TWO, 0, [(0, 1), (1, 0)]),
            (2, TWO, 2, [(0, 1), (1, 1), (2, 1)]),
            (3, ONE_SPEAKS, 1, STARTS_OF_THREE),
            (3, [CHAIN_OF_THREE], 2, STARTS_OF_THREE),
            (4, [CHAIN_OF_FOUR], 3, STARTS_OF_FOUR),
            (4, EIGHT, 1, [(0, 1, 2, 3), (4, 5, 6, 3)]),
        ):
            with self.subTest(hands=hands, road=road, rounds=rounds, starts=starts):
                self.assert_table(runs_of(starts, road, rounds), pact(hands, road, rounds, starts))

    def test_where_there_is_none(self):
        for hands, road, rounds, starts in (
            (2, [()], 0, STARTS_OF_TWO),
            (2, [()], 0, [(0, 0), (0, 1), (1, 1)]),
            (2, TWO[3:], 3, STARTS_OF_TWO),
            (2, ONE_MAY_BE_LOST, 1, STARTS_OF_TWO),
            (2, ONE_MAY_BE_LOST, 4, STARTS_OF_TWO),
            (3, [CHAIN_OF_THREE], 1, STARTS_OF_THREE),
            (3, THREE, 2, STARTS_OF_THREE),
            (4, [CHAIN_OF_FOUR], 2, STARTS_OF_FOUR),
            (4, EIGHT, 0, [(0, 1, 2, 3), (0, 4, 5, 6), (7, 4, 8, 9)]),
        ):
            with self.subTest(hands=hands, road=road, rounds=rounds, starts=starts):
                self.assert_row(runs_of(starts, road, rounds), pact(hands, road, rounds, starts))

    def test_a_row_where_each_two_runs_have_a_common_value(self):
        # No two runs suffice: each two of the starts share a value, all three don't.
        for starts in itertools.permutations([(0, 1), (2, 1), (0, 2)]):
            self.assert_row(runs_of(starts, TWO, 0), pact(2, TWO, 0, list(starts)))
        starts = [(0, 1, 2, 3), (0, 1, 2, 4), (0, 1, 3, 4), (0, 2, 3, 4), (1, 2, 3, 4)]
        for many in (4, 5):
            for some in itertools.permutations(starts, many):
                told = pact(4, [()], 0, list(some))
                runs = runs_of(some, [()], 0)
                if has_table(runs):
                    self.assert_table(runs, told)
                else:
                    self.assert_row(runs, told)

    def test_a_part_without_a_value_behind_good_ones(self):
        starts = [(8, 8), (0, 1), (0, 2), (3, 2), (9, 9)]
        self.assert_row(runs_of(starts, [()], 0), pact(2, [()], 0, starts))
        starts = [(9, 9), (8, 7), (2, 3), (2, 0), (1, 0)]
        self.assert_row(runs_of(starts, TWO, 2), pact(2, TWO, 2, starts))

    def test_values_below_nought_and_of_sixty_figures(self):
        starts = [(SIXTY, -SIXTY), (SIXTY, SIXTY - 1), (-SIXTY, SIXTY)]
        self.assert_table(runs_of(starts, [()], 0), pact(2, [()], 0, starts))
        starts.append((SIXTY - 1, SIXTY - 1))
        self.assert_row(runs_of(starts, [()], 0), pact(2, [()], 0, starts))

    def test_by_the_words_of_the_points(self):
        told_kinds = {"table": 0, "row": 0}
        for hands, road, rounds, starts in SMALL_ROADS:
            runs = runs_of(starts, road, rounds)
            with self.subTest(hands=hands, road=road, rounds=rounds, starts=starts):
                told = pact(hands, road, rounds, starts)
                told_kinds[told[0]] += 1
                if has_table(runs):
                    self.assert_table(runs, told)
                else:
                    self.assert_row(runs, told)
        self.assertGreater(min(told_kinds.values()), 30)

    def test_by_trying_every_table(self):
        told_kinds = set()
        for hands, road, rounds, starts in SMALL_ROADS:
            runs = runs_of(starts, road, rounds)
            if len(views_of(runs)) <= 8:
                kind = pact(hands, road, rounds, starts)[0]
                told_kinds.add(kind)
                self.assertEqual(kind == "table", some_table_serves(runs), (road, rounds, starts))
        self.assertEqual(told_kinds, {"table", "row"})

    def test_just_few_enough(self):
        for hands, road, rounds, starts in JUST_FEW_ENOUGH:
            told = pact(hands, road, rounds, starts)
            runs = runs_of(starts, road, rounds)
            if told[0] == "table":
                self.assert_table(runs, told)
            else:
                self.assert_row(runs, told)

    def test_too_many(self):
        for hands, road, rounds, starts, many in TOO_MANY:
            with self.subTest(many=many):
                self.assert_too_many(pact, hands, road, rounds, starts)

    def test_what_is_handed_in_and_told_stays_apart(self):
        for road, whole in ((ONE_SIDE, self.assert_table), (ONE_MAY_BE_LOST, self.assert_row)):
            handed, starts = list(road), list(STARTS_OF_TWO)
            told = pact(2, handed, 1, starts)
            self.assertEqual((handed, starts), (road, STARTS_OF_TWO))
            handed.clear()
            starts.clear()
            runs = runs_of(STARTS_OF_TWO, road, 1)
            whole(runs, told)
            told[-1].clear()
            told = pact(2, road, 1, STARTS_OF_TWO)
            whole(runs, told)
            pact(2, road, 2, STARTS_OF_TWO)
            whole(runs, told)


class FailsTest(PactCase):
    # Both hands hear all; each takes hand a's value.
    STARTS = [(0, 1), (1, 0), (2, 0)]
    TABLE = {
        (0, (0, 1), (((1,), None),)): 0,
        (1, (0, 1), ((None, (0,)),)): 0,
        (0, (1, 0), (((1,), None),)): 1,
        (1, (1, 0), ((None, (0,)),)): 1,
        (0, (2, 0), (((1,), None),)): 2,
        (1, (2, 0), ((None, (0,)),)): 2,
    }

    def told(self, table):
        return fails(2, [()], 1, self.STARTS, table)

    def changed(self, view, value):
        self.assertIn(view, self.TABLE)
        return {**self.TABLE, view: value}

    def without(self, *views):
        return {view: value for view, value in self.TABLE.items() if view not in views}

    def test_a_table_that_serves(self):
        self.assertIsNone(self.told(self.TABLE))
        # Each run may have a value of its own, of whichever hand.
        table = self.changed((0, (1, 0), (((1,), None),)), 0)
        table[(1, (1, 0), ((None, (0,)),))] = 0
        self.assertIsNone(self.told(table))

    def test_a_view_is_missing(self):
        views = list(self.TABLE)
        for place, view in enumerate(views):
            self.assertEqual(self.told(self.without(view)), place // 2)
        self.assertEqual(self.told(self.without(views[2], views[5])), 1)
        self.assertEqual(self.told(self.without(views[4], views[3])), 1)
        self.assertEqual(self.told(self.without(views[2], views[3])), 1)
        self.assertEqual(self.told({}), 0)

    def test_values_part(self):
        for place, view in enumerate(self.TABLE):
            # The other one's value is some hand's beginning too, so it's the parting alone.
            number = place // 2
            other = self.STARTS[number][1]
            self.assertEqual(self.told(self.changed(view, other)), number)

    def test_a_value_that_nobody_began_with(self):
        views = list(self.TABLE)
        for number in range(3):
            for value in (7, -1, SIXTY):
                table = {**self.TABLE, views[2 * number]: value, views[2 * number + 1]: value}
                self.assertEqual(self.told(table), number)
        # The value of another run's start is nobody's beginning in this one.
        self.assertEqual(self.told({**self.TABLE, views[2]: 2, views[3]: 2}), 1)

    def test_the_first_of_several(self):
        views = list(self.TABLE)
        table = self.changed(views[5], 0)
        self.assertEqual(self.told(table), 2)
        table[views[2]] = 7
        table[views[3]] = 7
        self.assertEqual(self.told(table), 1)
        table.pop(views[0])
        self.assertEqual(self.told(table), 0)
        # By the numbers of the runs, not by the order of the table.
        table = {view: value for view, value in reversed(self.TABLE.items())}
        table[views[1]] = table[views[5]] = 1
        self.assertEqual(self.told(table), 0)

    def test_the_last_hand_of_three_and_four(self):
        for hands, road, rounds, starts in (
            (3, [()], 1, [(0, 1, 1), (1, 0, 0)]),
            (4, EIGHT[:2], 1, [(0, 1, 2, 3), (3, 1, 1, 1)]),
            (3, ONE_SPEAKS, 2, [(0, 1, 1), (1, 0, 0)]),
        ):
            runs = runs_of(starts, road, rounds)
            table = pact(hands, road, rounds, starts)[1]
            self.assertIsNone(fails(hands, road, rounds, starts, table))
            for hand in range(hands):
                for number, run in enumerate(runs):
                    view = view_by_spots(run, hand)
                    first = min(place for place, other in enumerate(runs) if view_by_spots(other, hand) == view)
                    less = {other: value for other, value in table.items() if other != view}
                    self.assertEqual(fails(hands, road, rounds, starts, less), first)
                    other = [value for value in run[0] if value != table[view]][0]
                    self.assertEqual(fails(hands, road, rounds, starts, {**table, view: other}), first)

    def test_views_of_none_of_the_runs(self):
        table = dict(self.TABLE)
        for runs in (
            runs_of([(5, 6), (0, 0)], [()], 1),
            runs_of(self.STARTS, TWO[1:], 1),
            runs_of(self.STARTS, TWO, 0),
            runs_of(self.STARTS, TWO, 2),
        ):
            for view in views_of(runs) - set(self.TABLE):
                table[view] = 77
        self.assertGreater(len(table), len(self.TABLE))
        self.assertIsNone(self.told(table))
        table.pop((1, (1, 0), ((None, (0,)),)))
        self.assertEqual(self.told(table), 1)

    def test_no_rounds(self):
        table = {(0, (0, None), ()): 1, (1, (None, 1), ()): 1, (0, (2, None), ()): 1}
        self.assertIsNone(fails(2, TWO, 0, [(0, 1), (2, 1)], table))
        self.assertEqual(fails(2, TWO, 0, [(0, 1), (2, 1), (2, 2)], table), 2)

    def test_by_the_words_of_the_point(self):
        told_kinds = set()
        for hands, road, rounds, starts in SMALL_ROADS[::3]:
            runs = runs_of(starts, road, rounds)
            views = sorted(views_of(runs), key=repr)
            values = sorted({value for run in runs for value in run[0]})
            for shift in range(4):
                table = {view: values[(place * shift) % len(values)] for place, view in enumerate(views)}
                for view in views[::5][:shift]:
                    table.pop(view)
                if shift == 2:
                    # The greatest value seen serves in many runs, so that it's not always the first that fails.
                    table = {view: max(value for value in view[1] if value is not None) for view in table}
                told = fails(hands, road, rounds, starts, table)
                told_kinds.add(told)
                self.assertEqual(told, first_failing(runs, table))
        self.assertTrue({None, 0, 1, 2} <= told_kinds)

    def test_tables_of_pacts_serve(self):
        for hands, road, rounds, starts in SMALL_ROADS:
            told = pact(hands, road, rounds, starts)
            if told[0] == "table":
                self.assertIsNone(fails(hands, road, rounds, starts, told[1]))

    def test_no_table_serves_where_none_can(self):
        for table in ({}, self.TABLE, pact(2, ONE_SIDE, 1, STARTS_OF_TWO)[1]):
            told = fails(2, ONE_MAY_BE_LOST, 1, STARTS_OF_TWO, table)
            self.assertEqual(told, first_failing(runs_of(STARTS_OF_TWO, ONE_MAY_BE_LOST, 1), table))
            self.assertIsNotNone(told)

    def test_just_few_enough(self):
        hands, road, rounds, starts = JUST_FEW_ENOUGH[1]
        table = {}
        for run in runs_of(starts, road, rounds):
            table[view_by_spots(run, 0)] = table[view_by_spots(run, 1)] = run[0][1]
        self.assertIsNone(fails(hands, road, rounds, starts, table))
        table[view_by_spots((starts[2999], ()), 1)] = 1
        self.assertEqual(fails(hands, road, rounds, starts, table), 2999)

    def test_too_many(self):
        for hands, road, rounds, starts, many in TOO_MANY:
            with self.subTest(many=many):
                self.assert_too_many(fails, hands, road, rounds, starts, {})
                self.assert_too_many(fails, hands, road, rounds, starts, dict(self.TABLE))

    def test_what_is_handed_in_stays_as_it_was(self):
        road, starts = [()], list(self.STARTS)
        for table in (dict(self.TABLE), self.without((1, (1, 0), ((None, (0,)),))), {}):
            before = copy.deepcopy((road, starts, list(table.items())))
            fails(2, road, 1, starts, table)
            self.assertEqual((road, starts, list(table.items())), before)


class FewestRoundsTest(PactCase):
    # Three of the starts of four hands, and a road over which five rounds are asked for.
    SLOW = read_road(
        4, "a>b a>d b>d c>a c>b c>d, a>b a>c b>c b>d c>d d>c, a>b a>c b>a b>d c>a c>b c>d d>a d>c"
    )
    SLOW_STARTS = [(0, 0, 0, 0), (1, 0, 0, 0), (1, 1, 1, 1)]
    # Four rounds, 1,296 runs, are asked for; five would be 3,888 runs.
    NEARLY_TOO_MANY = read_road(4, "a>b a>c b>a c>a c>d d>b d>c, a>c b>a c>a c>d d>a d>c, a>d b>d")

    def assert_fewest(self, hands, road, starts, fewest, most):
        for bound in range(most + 1):
            with self.subTest(hands=hands, road=road, starts=starts, bound=bound):
                told = fewest_rounds(hands, road, starts, bound)
                self.assertEqual(told, None if fewest is None or bound < fewest else fewest)
                self.assertIn(type(told), (int, type(None)))

    def test_nought(self):
        self.assert_fewest(2, ONE_MAY_BE_LOST, [(5, 5)], 0, 5)
        self.assert_fewest(2, TWO, [(0, 1), (1, 0)], 0, 5)
        self.assert_fewest(2, TWO[3:], [(0, 1), (1, 1), (1, 2)], 0, 5)
        self.assert_fewest(4, [CHAIN_OF_FOUR], [(0, 0, 0, 0), (1, 1, 1, 1)], 0, 5)

    def test_one(self):
        self.assert_fewest(2, [()], STARTS_OF_TWO, 1, 5)
        self.assert_fewest(2, ONE_SIDE, STARTS_OF_TWO, 1, 5)
        self.assert_fewest(2, TWO[1:3], STARTS_OF_TWO, 1, 5)
        self.assert_fewest(3, ONE_SPEAKS, STARTS_OF_THREE, 1, 5)

    def test_some_and_most(self):
        self.assert_fewest(3, [CHAIN_OF_THREE], STARTS_OF_THREE, 2, 5)
        self.assert_fewest(4, [CHAIN_OF_FOUR], STARTS_OF_FOUR, 3, 5)
        self.assert_fewest(4, self.NEARLY_TOO_MANY, STARTS_OF_FOUR, 4, 4)
        self.assert_fewest(4, self.SLOW, self.SLOW_STARTS, 5, 5)

    def test_none(self):
        self.assert_fewest(2, [()], STARTS_OF_TWO, 1, 0)
        self.assert_fewest(2, TWO[3:], STARTS_OF_TWO, None, 5)
        self.assert_fewest(2, ONE_MAY_BE_LOST, STARTS_OF_TWO, None, 5)
        self.assert_fewest(2, [TWO[3]], [(SIXTY, -SIXTY), (0, -SIXTY), (0, SIXTY - 1)], None, 5)

    def test_by_the_words_of_the_point(self):
        told_kinds = set()
        for hands, road, rounds, starts in SMALL_ROADS:
            if rounds > 0:
                serving = [many for many in range(rounds + 1) if has_table(runs_of(starts, road, many))]
                # With more rounds no pact is lost.
                self.assertEqual(serving, list(range(min(serving), rounds + 1)) if serving else [])
                told = fewest_rounds(hands, road, starts, rounds)
                told_kinds.add(told)
                self.assertEqual(told, min(serving, default=None))
        self.assertTrue({None, 0, 1, 2} <= told_kinds)

    def test_too_many_only_where_it_is_looked_at(self):
        # Eight weathers of three hands: 8, 64, 512 and 4,096 runs.
        weathers = all_weathers(3)
        first_is_heard = [weather for weather in weathers if all(start != 0 for start, goal in weather)][:8]
        self.assertEqual(fewest_rounds(3, first_is_heard, STARTS_OF_THREE, 5), 1)
        self.assertEqual(fewest_rounds(3, weathers[:8], STARTS_OF_THREE, 5), 2)
        # All letters may be lost, so no rounds help.
        lossy = weathers[-8:]
        self.assertIsNone(fewest_rounds(3, lossy, STARTS_OF_THREE, 2))
        for most in (3, 4, 5):
            self.assert_too_many(fewest_rounds, 3, lossy, STARTS_OF_THREE, most)
        self.assertEqual(fewest_rounds(3, lossy, [(0, 1, 2)], 5), 0)
        self.assertEqual(fewest_rounds(4, EIGHT, [(0, 1, 2, 3), (3, 0, 1, 2)], 5), 0)

    def test_too_many_just_behind_the_fewest(self):
        self.assertEqual(fewest_rounds(4, self.NEARLY_TOO_MANY, STARTS_OF_FOUR, 5), 4)
        # Three rounds: 3,000 runs with 24 starts, 3,125 with 25.
        self.assertIsNone(fewest_rounds(3, FIVE_OF_THREE, STARTS_OF_THREE_VALUES[:24], 3))
        self.assert_too_many(fewest_rounds, 3, FIVE_OF_THREE, STARTS_OF_THREE_VALUES[:25], 3)
        self.assertIsNone(fewest_rounds(3, FIVE_OF_THREE, STARTS_OF_THREE_VALUES[:25], 2))

    def test_too_many_starts(self):
        starts = [(number, -number) for number in range(3001)]
        self.assertEqual(fewest_rounds(2, [()], starts[:3000], 5), 0)
        self.assert_too_many(fewest_rounds, 2, [()], starts, 0)

    def test_what_is_handed_in_stays_as_it_was(self):
        road, starts = list(ONE_MAY_BE_LOST), list(STARTS_OF_TWO)
        fewest_rounds(2, road, starts, 3)
        self.assertEqual((road, starts), (ONE_MAY_BE_LOST, STARTS_OF_TWO))


def all_weathers(hands):
    letters = [(start, goal) for start in range(hands) for goal in range(hands) if start != goal]
    return [weather for many in range(len(letters) + 1) for weather in itertools.combinations(letters, many)]


if __name__ == "__main__":
    unittest.main()
