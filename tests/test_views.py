"""Runs and views: points 2 to 4 and 6 to 8, and the interface of losspact/views.py."""

import copy
import inspect
import itertools
import unittest

from by_words import FOUR, THREE, TWO, runs_of, same_by_letters, view_by_spots
from losspact.views import alike, came_to, cut_to, view

SIXTY = 10 ** 60 - 1

RUNS = [
    *(run for rounds in range(4) for run in runs_of([(0, 0), (0, 1), (1, 1)], TWO, rounds)),
    *(run for rounds in range(4) for run in runs_of([(0, 0, 0), (0, 1, 2)], THREE, rounds)),
    *(run for rounds in range(4) for run in runs_of([(0, 0, 0, 0), (3, 1, 1, 2)], FOUR, rounds)),
]


class InterfaceTest(unittest.TestCase):
    def test_arguments(self):
        for function, names in (
            (came_to, ["hands", "weather", "hand"]),
            (view, ["run", "hand"]),
            (alike, ["one", "other", "hand"]),
            (cut_to, ["run", "rounds"]),
        ):
            with self.subTest(function=function.__name__):
                self.assertEqual(list(inspect.signature(function).parameters), names)


class CameToTest(unittest.TestCase):
    def test_each_hand_in_several_weathers(self):
        for hands, weather, told in (
            (2, (), [(1,), (0,)]),
            (2, ((0, 1),), [(1,), ()]),
            (2, ((1, 0),), [(), (0,)]),
            (2, ((0, 1), (1, 0)), [(), ()]),
            (3, (), [(1, 2), (0, 2), (0, 1)]),
            (3, ((0, 1),), [(1, 2), (2,), (0, 1)]),
            (3, ((1, 0), (2, 0)), [(), (0, 2), (0, 1)]),
            (3, ((0, 1), (1, 2), (2, 0)), [(1,), (2,), (0,)]),
            (4, (), [(1, 2, 3), (0, 2, 3), (0, 1, 3), (0, 1, 2)]),
            (4, ((0, 3), (2, 1), (3, 0)), [(1, 2), (0, 3), (0, 1, 3), (1, 2)]),
            (4, ((0, 1), (0, 2), (0, 3)), [(1, 2, 3), (2, 3), (1, 3), (1, 2)]),
        ):
            for hand in range(hands):
                with self.subTest(hands=hands, weather=weather, hand=hand):
                    came = came_to(hands, weather, hand)
                    self.assertEqual(came, told[hand])
                    self.assertIs(type(came), tuple)

    def test_every_weather_of_three_hands(self):
        letters = [(start, goal) for start in range(3) for goal in range(3) if start != goal]
        for many in range(len(letters) + 1):
            for weather in itertools.combinations(letters, many):
                for hand in range(3):
                    came = came_to(3, weather, hand)
                    self.assertEqual(list(came), sorted(came))
                    self.assertNotIn(hand, came)
                    for start in range(3):
                        if start != hand:
                            self.assertEqual(start in came, (start, hand) not in weather)

    def test_beyond_the_bounds(self):
        self.assertEqual(came_to(5, ((0, 4), (2, 4)), 4), (1, 3))


class CutToTest(unittest.TestCase):
    RUN = ((5, 7), (((0, 1),), (), ((1, 0),)))

    def test_none_some_and_all_of_the_rounds(self):
        self.assertEqual(cut_to(self.RUN, 0), ((5, 7), ()))
        self.assertEqual(cut_to(self.RUN, 1), ((5, 7), (((0, 1),),)))
        self.assertEqual(cut_to(self.RUN, 2), ((5, 7), (((0, 1),), ())))
        self.assertEqual(cut_to(self.RUN, 3), self.RUN)

    def test_a_run_of_no_rounds(self):
        self.assertEqual(cut_to(((1, 2, 3), ()), 0), ((1, 2, 3), ()))

    def test_kinds(self):
        for rounds in range(4):
            cut = cut_to(self.RUN, rounds)
            self.assertIs(type(cut), tuple)
            self.assertEqual([type(part) for part in cut], [tuple, tuple])

    def test_every_cut(self):
        for values, weathers in RUNS:
            for rounds in range(len(weathers) + 1):
                self.assertEqual(cut_to((values, weathers), rounds), (values, weathers[:rounds]))

    def test_what_is_handed_in_stays_as_it_was(self):
        run = copy.deepcopy(self.RUN)
        for rounds in (0, 2, 3):
            cut_to(run, rounds)
        self.assertEqual(run, self.RUN)


class ViewTest(unittest.TestCase):
    def assert_views(self, run, views):
        for hand, told in enumerate(views):
            with self.subTest(run=run, hand=hand):
                self.assertEqual(view(run, hand), told)

    def test_no_rounds(self):
        self.assert_views(((5, 7), ()), [(0, (5, None), ()), (1, (None, 7), ())])
        self.assert_views(
            ((1, 2, 3), ()), [(0, (1, None, None), ()), (1, (None, 2, None), ()), (2, (None, None, 3), ())]
        )
        self.assert_views(((1, 1, 1, 1), ()), [
            (0, (1, None, None, None), ()),
            (1, (None, 1, None, None), ()),
            (2, (None, None, 1, None), ()),
            (3, (None, None, None, 1), ()),
        ])

    def test_one_round_of_two_hands(self):
        for weather, first, second in (
            ((), (0, (5, 7), (((1,), None),)), (1, (5, 7), ((None, (0,)),))),
            (((0, 1),), (0, (5, 7), (((1,), None),)), (1, (None, 7), ((None, ()),))),
            (((1, 0),), (0, (5, None), (((), None),)), (1, (5, 7), ((None, (0,)),))),
            (((0, 1), (1, 0)), (0, (5, None), (((), None),)), (1, (None, 7), ((None, ()),))),
        ):
            self.assert_views(((5, 7), (weather,)), [first, second])

    def test_two_rounds_of_two_hands(self):
        self.assert_views(((5, 7), (((0, 1),), ())), [
            (0, (5, 7), (((1,), ()), ((1,), None))),
            (1, (5, 7), (((1,), ()), (None, (0,)))),
        ])
        self.assert_views(((5, 7), ((), ((0, 1),))), [
            (0, (5, 7), (((1,), (0,)), ((1,), None))),
            (1, (5, 7), ((None, (0,)), (None, ()))),
        ])
        self.assert_views(((5, 7), (((0, 1),), ((0, 1),))), [
            (0, (5, 7), (((1,), ()), ((1,), None))),
            (1, (None, 7), ((None, ()), (None, ()))),
        ])

    def test_a_value_heard_through_another_hand(self):
        self.assert_views(((1, 2, 3), (((1, 0), (2, 0)), ((1, 0),))), [
            (0, (1, 2, 3), (((), None, (0, 1)), ((2,), None, None))),
            (1, (1, 2, 3), (((), (0, 2), (0, 1)), (None, (0, 2), None))),
            (2, (1, 2, 3), (((), (0, 2), (0, 1)), (None, None, (0, 1)))),
        ])

    def test_a_hand_that_is_never_heard(self):
        self.assert_views(((1, 2, 3), (((1, 0), (1, 2)), ((1, 0), (1, 2)))), [
            (0, (1, None, 3), (((2,), None, (0,)), ((2,), None, None))),
            (1, (1, 2, 3), (((2,), (0, 2), (0,)), (None, (0, 2), None))),
            (2, (1, None, 3), (((2,), None, (0,)), (None, None, (0,)))),
        ])

    def test_four_hands(self):
        lost_to_first = ((1, 0), (2, 0), (3, 0))
        all_but_last_to_first = ((0, 1), (0, 2), (0, 3), (1, 0), (1, 2), (1, 3), (2, 0), (2, 1), (2, 3), (3, 1), (3, 2))
        self.assert_views(((4, 5, 6, 7), (lost_to_first, all_but_last_to_first)), [
            (0, (4, 5, 6, 7), (((), None, None, (0, 1, 2)), ((3,), None, None, None))),
            (1, (4, 5, 6, 7), ((None, (0, 2, 3), None, None), (None, (), None, None))),
            (2, (4, 5, 6, 7), ((None, None, (0, 1, 3), None), (None, None, (), None))),
            (3, (4, 5, 6, 7), ((None, None, None, (0, 1, 2)), (None, None, None, ()))),
        ])

    def test_a_chain_of_four_hands(self):
        chain = tuple(
            (start, goal) for start in range(4) for goal in range(4) if start != goal and goal != start + 1
        )
        run = ((4, 5, 6, 7), (chain, chain, chain))
        self.assertEqual(
            view(run, 3),
            (3, (4, 5, 6, 7), ((None, (0,), (1,), (2,)), (None, None, (1,), (2,)), (None, None, None, (2,)))),
        )
        self.assertEqual(view(cut_to(run, 2), 3)[1], (None, 5, 6, 7))
        self.assertEqual(view(run, 0), (0, (4, None, None, None), (((), None, None, None),) * 3))

    def test_values_below_nought_and_of_sixty_figures(self):
        self.assertEqual(view(((-3, SIXTY), ((),)), 0), (0, (-3, SIXTY), (((1,), None),)))
        self.assertEqual(view(((-SIXTY, 0), (((0, 1),),)), 0), (0, (-SIXTY, 0), (((1,), None),)))
        self.assertEqual(view(((-SIXTY, 0), (((0, 1),),)), 1), (1, (None, 0), ((None, ()),)))
        self.assertEqual(view(((0, 0), ()), 1), (1, (None, 0), ()))

    def test_by_the_words_of_the_point(self):
        for run in RUNS:
            for hand in range(len(run[0])):
                with self.subTest(run=run, hand=hand):
                    self.assertEqual(view(run, hand), view_by_spots(run, hand))

    def test_five_rounds_and_somewhat_beyond(self):
        for rounds in (5, 6):
            run = ((1, 2, 3, 4), tuple(FOUR[place % 3] for place in range(rounds)))
            for hand in range(4):
                self.assertEqual(view(run, hand), view_by_spots(run, hand))
        self.assertEqual(view(((1, 2, 3, 4, 5), (((0, 4),),)), 4)[1], (None, 2, 3, 4, 5))

    def test_kinds(self):
        for run in RUNS[::7]:
            told = view(run, 0)
            self.assertEqual([type(part) for part in told], [int, tuple, tuple])
            self.assertEqual(len(told[1]), len(run[0]))
            self.assertEqual(len(told[2]), len(run[1]))
            for came in told[2]:
                self.assertIs(type(came), tuple)
                self.assertEqual(len(came), len(run[0]))
                for starts in came:
                    self.assertIn(type(starts), (tuple, type(None)))
            # A table's keys are views.
            self.assertEqual({told: 1}[view(run, 0)], 1)

    def test_what_is_handed_in_stays_as_it_was(self):
        run = ((1, 2, 3), (THREE[1], THREE[3], THREE[0]))
        before = copy.deepcopy(run)
        first = view(run, 1)
        kept = copy.deepcopy(first)
        view(run, 0)
        view(cut_to(run, 1), 1)
        self.assertEqual(run, before)
        self.assertEqual(first, kept)
        self.assertEqual(view(run, 1), kept)


class AlikeTest(unittest.TestCase):
    def assert_alike(self, one, other, told):
        for hand, same in enumerate(told):
            with self.subTest(one=one, other=other, hand=hand):
                self.assertIs(alike(one, other, hand), same)
                self.assertIs(alike(other, one, hand), same)

    def test_the_own_value(self):
        self.assert_alike(((0, 1), ()), ((0, 2), ()), [True, False])
        self.assert_alike(((0, 1), ()), ((2, 1), ()), [False, True])
        self.assert_alike(((SIXTY, 1), ()), ((-SIXTY, 1), ()), [False, True])
        self.assert_alike(((SIXTY, 1), ()), ((SIXTY - 1, 1), ()), [False, True])

    def test_whose_letters_came(self):
        self.assert_alike(((0, 0), ((),)), ((0, 0), (((0, 1),),)), [True, False])
        self.assert_alike(((0, 0), ((),)), ((0, 0), (((1, 0),),)), [False, True])
        self.assert_alike(((0, 0, 0), (((1, 0),),)), ((0, 0, 0), (((2, 0),),)), [False, True, True])

    def test_what_the_senders_had_seen(self):
        self.assert_alike(((0, 1), ((),)), ((0, 2), ((),)), [False, False])
        self.assert_alike(((0, 1), (((1, 0),),)), ((0, 2), (((1, 0),),)), [True, False])
        self.assert_alike(((0, 0), (((0, 1),), ())), ((0, 0), ((), ())), [False, False])
        self.assert_alike(((0, 0), (((0, 1),), ((1, 0),))), ((0, 0), ((), ((1, 0),))), [True, False])

    def test_a_value_that_comes_by_another_hand(self):
        past_first = ((1, 0), (2, 0))
        self.assert_alike(
            ((0, 1, 2), (past_first, ((1, 0),))), ((0, 5, 2), (past_first, ((1, 0),))), [False, False, False]
        )
        never = ((1, 0), (1, 2))
        self.assert_alike(((0, 1, 2), (never, never)), ((0, 5, 2), (never, never)), [True, False, True])

    def test_the_last_round_of_others_is_not_seen(self):
        self.assert_alike(
            ((1, 1, 1, 1), (FOUR[0], ())), ((1, 1, 1, 1), (FOUR[0], ((2, 3),))), [True, True, True, False]
        )

    def test_a_run_and_itself(self):
        for run in RUNS[::5]:
            self.assert_alike(run, run, [True] * len(run[0]))

    def test_by_the_words_of_the_point_and_as_equal_views(self):
        groups = [
            runs_of([(0, 0), (0, 1), (1, 1)], TWO, 2),
            runs_of([(0, 0, 0), (0, 1, 2), (0, 0, 2)], THREE, 2),
            runs_of([(0, 0, 0, 0), (3, 0, 0, 0)], FOUR, 2),
            runs_of([(0, 1)], TWO[:3], 3),
        ]
        for group in groups:
            told = set()
            for one, other in itertools.product(group, repeat=2):
                for hand in range(len(one[0])):
                    same = alike(one, other, hand)
                    told.add(same and one != other)
                    self.assertIs(same, same_by_letters(one, other, hand, len(one[1])), (one, other, hand))
                    self.assertIs(same, view(one, hand) == view(other, hand), (one, other, hand))
            self.assertEqual(told, {True, False})

    def test_what_is_handed_in_stays_as_it_was(self):
        one, other = ((1, 2), ((), ((0, 1),))), ((1, 3), (((1, 0),), ()))
        before = copy.deepcopy((one, other))
        alike(one, other, 0)
        self.assertEqual((one, other), before)


if __name__ == "__main__":
    unittest.main()
