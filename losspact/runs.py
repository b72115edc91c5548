"""Runs by number: all starts over some values, and the runs of a road, a number of rounds and starts."""

from losspact.errors import TooMany

MOST_RUNS = 3000


def all_starts(hands, values):
    return [row_at(values, hands, number) for number in range(many_rows(values, hands))]


def many_rows(things, length):
    many = 1
    for place in range(length):
        many = many * len(things)
    return many


def row_at(things, length, number):
    # The last place counts least, so the row is made from its end.
    row = []
    rest = number
    for place in range(length):
        row.append(things[rest % len(things)])
        rest = rest // len(things)
    return tuple(reversed(row))


def many_runs(road, rounds, starts):
    return len(starts) * many_rows(road, rounds)


def run_at(road, rounds, starts, number):
    many = many_rows(road, rounds)
    return (starts[number // many], row_at(road, rounds, number % many))


def number_of(road, rounds, starts, run):
    number = starts.index(run[0])
    for weather in run[1]:
        number = number * len(road) + road.index(weather)
    return number


def all_runs(road, rounds, starts):
    many = many_runs(road, rounds, starts)
    if many > MOST_RUNS:
        raise TooMany("there are more than 3,000 runs")
    return [run_at(road, rounds, starts, number) for number in range(many)]
