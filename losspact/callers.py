"""Callers: hands whose beginning every hand hears of, for each part of the rows of weathers."""

from losspact.parts import joined_parts, views_of_all
from losspact.runs import all_runs


def weather_parts(hands, road, rounds):
    return parts_by_came(views_of_rows(hands, road, rounds))


def callers(hands, road, rounds):
    seen = views_of_rows(hands, road, rounds)
    return [callers_of(hands, seen, part) for part in parts_by_came(seen)]


def views_of_rows(hands, road, rounds):
    # With one of the starts alone the runs are the rows in their order; which start it is makes no difference.
    start = tuple([0 for hand in range(hands)])
    return views_of_all(hands, all_runs(road, rounds, [start]))


def parts_by_came(seen):
    return joined_parts([came_alone(views) for views in seen])


def came_alone(views):
    return [(hand, came) for hand, values, came in views]


def callers_of(hands, seen, part):
    told = list(range(hands))
    for number in part:
        for one_view in seen[number]:
            told = [hand for hand in told if one_view[1][hand] is not None]
    return told
