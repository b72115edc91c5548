"""The words of the document taken literally and without any care for speed, to hold the program against."""

import functools
import itertools


def spots_heard(run, hand, rounds):
    """The spots (hand, rounds) that a spot hears, by the words of point 7."""
    heard = {(hand, rounds)}
    if rounds > 0:
        heard |= spots_heard(run, hand, rounds - 1)
        for start in range(len(run[0])):
            if start != hand and (start, hand) not in run[1][rounds - 1]:
                heard |= spots_heard(run, start, rounds - 1)
    return heard


def view_by_spots(run, hand):
    values, weathers = run
    hands = range(len(values))
    heard = spots_heard(run, hand, len(weathers))
    return (
        hand,
        tuple(values[other] if (other, 0) in heard else None for other in hands),
        tuple(
            tuple(
                tuple(start for start in hands if start != goal and (start, goal) not in weather)
                if (goal, rounds) in heard else None
                for goal in hands
            )
            for rounds, weather in enumerate(weathers, start=1)
        ),
    )


def same_by_letters(one, other, hand, rounds):
    """Whether two runs look the same to a hand behind so many rounds, by the words of point 8."""
    if one[0][hand] != other[0][hand]:
        return False
    for place in range(rounds):
        starts = [start for start in range(len(one[0])) if start != hand and (start, hand) not in one[1][place]]
        others = [start for start in range(len(one[0])) if start != hand and (start, hand) not in other[1][place]]
        if starts != others:
            return False
        if not all(same_by_letters(one, other, start, place) for start in starts):
            return False
    return True


def runs_of(starts, road, rounds):
    return [(values, weathers) for values in starts for weathers in itertools.product(road, repeat=rounds)]


def serves_in_run(run, table):
    """Whether a table does in one run what point 13 asks."""
    views = [view_by_spots(run, hand) for hand in range(len(run[0]))]
    if not all(one_view in table for one_view in views):
        return False
    values = {table[one_view] for one_view in views}
    return len(values) == 1 and values <= set(run[0])


def first_failing(runs, table):
    for number, run in enumerate(runs):
        if not serves_in_run(run, table):
            return number
    return None


def joined(one, other):
    """Whether two runs look the same to some hand, by the words of points 8 and 11."""
    return any(same_by_letters(one, other, hand, len(one[1])) for hand in range(len(one[0])))


def parts_of(runs):
    """The parts of all runs of a road, by the words of point 11."""
    return [list(part) for part in kept_parts(tuple(runs))]


@functools.cache
def kept_parts(runs):
    return parts_by_steps(len(runs), lambda one, other: joined(runs[one], runs[other]))


def parts_by_steps(many, are_joined):
    """The parts of the numbers below many."""
    # Steps are added till none leads out of the part.
    parts = []
    for number in range(many):
        if not any(number in part for part in parts):
            part, wave = {number}, {number}
            while wave:
                wave = {
                    other for other in range(many)
                    if other not in part and any(are_joined(one, other) for one in wave)
                }
                part |= wave
            parts.append(sorted(part))
    return parts


def rows_of(road, rounds):
    return list(itertools.product(road, repeat=rounds))


def came_by_spots(hands, row, hand):
    return view_by_spots(((0,) * hands, row), hand)[2]


def rows_parts_of(hands, rows):
    """The parts of all rows of weathers of a road, by the words of point 16."""
    came = [[came_by_spots(hands, row, hand) for hand in range(hands)] for row in rows]
    return parts_by_steps(
        len(rows), lambda one, other: any(came[one][hand] == came[other][hand] for hand in range(hands)),
    )


def callers_of_rows(hands, rows):
    """The callers of a part of the rows of weathers, by the words of point 16."""
    return [
        caller for caller in range(hands)
        if all((caller, 0) in spots_heard(((0,) * hands, row), hand, len(row)) for row in rows for hand in range(hands))
    ]


def cut(run, rounds):
    return (run[0], tuple(run[1][place] for place in range(rounds)))


def settled_by_words(runs, table, number, hand):
    """The first number of rounds behind which a hand is settled in a run, by the words of point 17."""
    own = runs[number]
    for rounds in range(len(own[1]) + 1):
        same = [run for run in runs if same_by_letters(cut(run, rounds), cut(own, rounds), hand, rounds)]
        if len({value_of(run, table) for run in same}) == 1:
            return rounds
    return None


def value_of(run, table):
    values = {table[view_by_spots(run, hand)] for hand in range(len(run[0]))}
    assert len(values) == 1, "the table doesn't serve"
    return values.pop()


def serving_table(runs, shift):
    """A table that serves, with values that the shift picks out of those that each part lets choose."""
    table = {}
    for place, part in enumerate(parts_of(runs)):
        common = sorted(set.intersection(*(set(runs[number][0]) for number in part)))
        for number in part:
            for hand in range(len(runs[number][0])):
                table[view_by_spots(runs[number], hand)] = common[(place * shift + shift) % len(common)]
    return table


def common_value(runs):
    """Whether some value stands among the starting values of each of the runs."""
    return bool(set.intersection(*(set(values) for values, weathers in runs)))


def has_table(runs):
    """Whether there is a table that serves, by the parts, as point 13 tells."""
    return all(common_value([runs[number] for number in part]) for part in parts_of(runs))


def some_table_serves(runs):
    """Whether there is a table that serves, by trying every one: for very few views alone."""
    views = sorted({view_by_spots(run, hand) for run in runs for hand in range(len(run[0]))}, key=repr)
    values = sorted({value for run in runs for value in run[0]})
    return any(
        first_failing(runs, dict(zip(views, row))) is None for row in itertools.product(values, repeat=len(views))
    )


def wrong_step(runs, number, steps):
    """The first step of a row from a run that isn't right by point 11, or None."""
    for step in steps:
        hand, goal = step
        if hand not in range(len(runs[0][0])) or goal not in range(len(runs)):
            return step
        if not same_by_letters(runs[number], runs[goal], hand, len(runs[0][1])):
            return step
        number = goal
    return None


TWO = [(), ((0, 1),), ((1, 0),), ((0, 1), (1, 0))]
THREE = [(), ((0, 1), (0, 2)), ((1, 0), (2, 0)), ((0, 1), (1, 2), (2, 0))]
FOUR = [((0, 1), (0, 2), (0, 3)), ((1, 0), (2, 0), (3, 0), (3, 1)), ((0, 3), (1, 2), (2, 1), (3, 0))]
# Each weather lets just the letters from a hand to the one behind it come.
CHAIN_OF_THREE = ((0, 2), (1, 0), (2, 0), (2, 1))
CHAIN_OF_FOUR = ((0, 2), (0, 3), (1, 0), (1, 3), (2, 0), (2, 1), (3, 0), (3, 1), (3, 2))
# Each weather lets just the letters of one hand come.
ONE_SPEAKS = [((1, 0), (1, 2), (2, 0), (2, 1)), ((0, 1), (0, 2), (2, 0), (2, 1)), ((0, 1), (0, 2), (1, 0), (1, 2))]

STARTS_OF_TWO = list(itertools.product([0, 1], repeat=2))
STARTS_OF_THREE = list(itertools.product([0, 1], repeat=3))
STARTS_OF_FOUR = list(itertools.product([0, 1], repeat=4))


def small_roads():
    """Tuples (hands, road, rounds, starts) that the words can still be held against."""
    for many in range(1, 5):
        for road in itertools.combinations(TWO, many):
            for rounds in range(3):
                yield 2, list(reversed(road)), rounds, STARTS_OF_TWO
    for starts in ([(4, 4)], [(0, 1)], [(1, 0), (0, 1)], [(7, -3), (-3, 5), (7, 5)], [(2, 1), (1, 0), (0, 2), (1, 1)]):
        for road in (TWO, TWO[1:3], [TWO[3], TWO[0]]):
            for rounds in range(3):
                yield 2, road, rounds, starts
    yield 2, TWO[:3], 3, [(0, 1), (1, 1)]
    for road in (THREE, THREE[1:], [CHAIN_OF_THREE], [CHAIN_OF_THREE, ()], ONE_SPEAKS, ONE_SPEAKS[:2]):
        for rounds in range(3):
            yield 3, road, rounds, STARTS_OF_THREE if len(road) ** rounds < 10 else STARTS_OF_THREE[2:6]
            yield 3, road, rounds, [(2, 1, 2), (1, 0, 1), (0, 1, 0), (0, 0, 2)]
    yield 3, ONE_SPEAKS, 3, [(0, 0, 1), (1, 0, 1)]
    for road in (FOUR, FOUR[1:], [CHAIN_OF_FOUR], [CHAIN_OF_FOUR, FOUR[0]], [()]):
        for rounds in range(3):
            yield 4, road, rounds, STARTS_OF_FOUR if len(road) ** rounds < 5 else STARTS_OF_FOUR[3:8]
    yield 4, [CHAIN_OF_FOUR], 3, STARTS_OF_FOUR
    yield 4, FOUR[:2], 3, [(0, 1, 2, 3), (1, 1, 2, 3), (3, 2, 1, 0)]


SMALL_ROADS = list(small_roads())

# Roads around the bound of point 12: just 3,000 runs, and more.
EIGHT = [(), ((0, 1),), ((0, 2),), ((0, 3),), ((1, 0),), ((2, 0),), ((3, 0),), ((0, 1), (1, 0))]
FIVE_OF_THREE = [(), ((0, 1),), ((1, 0),), ((0, 2), (1, 2)), ((2, 0), (2, 1))]
STARTS_OF_THREE_VALUES = list(itertools.product([0, 1, 2], repeat=3))
JUST_FEW_ENOUGH = [
    (3, FIVE_OF_THREE, 3, STARTS_OF_THREE_VALUES[:24]),
    (2, [()], 0, [(number, -number) for number in range(3000)]),
]
TOO_MANY = [
    (2, TWO, 5, [(0, 1), (1, 0), (1, 1)], 3072),
    (3, FIVE_OF_THREE, 5, [(0, 0, 0)], 3125),
    (3, FIVE_OF_THREE, 3, STARTS_OF_THREE_VALUES[:25], 3125),
    (4, EIGHT, 2, list(itertools.product([0, 1, 2], repeat=4))[:47], 3008),
    (4, EIGHT, 5, list(itertools.product([0, 1, 2], repeat=4)), 2654208),
    (2, [()], 0, [(number, -number) for number in range(3001)], 3001),
]
