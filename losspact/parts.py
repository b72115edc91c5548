"""Parts: runs that hang together as they look the same to some hand, and rows of steps between them."""

from losspact.runs import all_runs
from losspact.views import view


def parts(hands, road, rounds, starts):
    return joined_parts(views_of_all(hands, all_runs(road, rounds, starts)))


def row_between(hands, road, rounds, starts, one, other):
    seen = views_of_all(hands, all_runs(road, rounds, starts))
    return row_to(ways_from(seen, runs_by_view(seen), one), other)


def views_of_all(hands, runs):
    return [views_in(hands, run) for run in runs]


def views_in(hands, run):
    return [view(run, hand) for hand in range(hands)]


def runs_by_view(seen):
    sharing = {}
    for number, views in enumerate(seen):
        for one_view in views:
            sharing.setdefault(one_view, []).append(number)
    return sharing


def joined_parts(seen):
    sharing = runs_by_view(seen)
    placed = {}
    told = []
    # The runs are walked in their order, so each part is met first at its least run.
    for number in range(len(seen)):
        if number not in placed:
            ways = ways_from(seen, sharing, number)
            placed.update(ways)
            told.append(sorted(ways))
    return told


def ways_from(seen, sharing, first):
    """For each run of the first one's part the hand and the run ahead by which it is come to, None for the first."""
    ways = {first: None}
    walked = {}
    wave = [first]
    while len(wave) > 0:
        further = []
        for ahead in wave:
            for hand, number in steps_by_new_views(seen[ahead], sharing, walked):
                if number not in ways:
                    ways[number] = (hand, ahead)
                    further.append(number)
        wave = further
    return ways


def steps_by_new_views(views, sharing, walked):
    # All runs that share a view are come to at once; walking them again from each of them would cost their square.
    steps = []
    for hand, one_view in enumerate(views):
        if one_view not in walked:
            walked[one_view] = True
            steps.extend([(hand, number) for number in sharing[one_view]])
    return steps


def row_to(ways, goal):
    if goal not in ways:
        return None
    steps = []
    number = goal
    while ways[number] is not None:
        way = ways[number]
        steps.append((way[0], number))
        number = way[1]
    return list(reversed(steps))
