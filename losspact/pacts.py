"""Pacts: tables by which all hands take one value in every run, or rows that show that there is none."""

from losspact.parts import joined_parts, row_to, runs_by_view, views_in, views_of_all, ways_from
from losspact.runs import all_runs


def pact(hands, road, rounds, starts):
    runs = all_runs(road, rounds, starts)
    seen = views_of_all(hands, runs)
    table = {}
    for part in joined_parts(seen):
        common = common_values(runs, part)
        if len(common) == 0:
            return ("row", part[0], parting_row(runs, seen, part))
        for number in part:
            for one_view in seen[number]:
                table[one_view] = common[0]
    return ("table", table)


def common_values(runs, numbers):
    common = runs[numbers[0]][0]
    for number in numbers:
        common = values_kept(common, runs[number])
    return common


def values_kept(values, run):
    return [value for value in values if value in run[0]]


def parting_row(runs, seen, part):
    # The part has no common value: each value of its first run is missing in some run, and the row goes past one.
    sharing = runs_by_view(seen)
    steps = []
    here = part[0]
    common = runs[here][0]
    while len(common) > 0:
        goal = first_without(runs, part, common[0])
        further = row_to(ways_from(seen, sharing, here), goal)
        for hand, number in further:
            common = values_kept(common, runs[number])
        steps.extend(further)
        here = goal
    return steps


def first_without(runs, part, value):
    return [number for number in part if value not in runs[number][0]][0]


def fails(hands, road, rounds, starts, table):
    for number, run in enumerate(all_runs(road, rounds, starts)):
        if not serves_in(hands, run, table):
            return number
    return None


def serves_in(hands, run, table):
    views = views_in(hands, run)
    if not all([one_view in table for one_view in views]):
        return False
    value = table[views[0]]
    return value in run[0] and all([table[one_view] == value for one_view in views])


def fewest_rounds(hands, road, starts, most):
    # From nought upwards, as only the rounds that are looked at may be refused with TooMany.
    for rounds in range(most + 1):
        if pact(hands, road, rounds, starts)[0] == "table":
            return rounds
    return None
