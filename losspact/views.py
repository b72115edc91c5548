"""Runs and views: what a hand has seen of a run, and which runs look the same to it."""


def came_to(hands, weather, hand):
    return tuple([start for start in range(hands) if start != hand and (start, hand) not in weather])


def view(run, hand):
    values = run[0]
    hands = len(values)
    # What a spot hears lies in earlier rounds, so the rounds are walked from the last to the first.
    heard = [hand]
    came = []
    for weather in reversed(run[1]):
        came_here = came_to_heard(hands, weather, heard)
        came.append(came_here)
        heard = heard_earlier(heard, came_here)
    seen_values = [values[other] if other in heard else None for other in range(hands)]
    return (hand, tuple(seen_values), tuple(reversed(came)))


def came_to_heard(hands, weather, heard):
    return tuple([came_to(hands, weather, other) if other in heard else None for other in range(hands)])


def heard_earlier(heard, came_here):
    # A hand keeps what it has seen, so whoever is heard now is heard one round earlier too.
    earlier = list(heard)
    for starts in came_here:
        if starts is not None:
            earlier.extend(starts)
    return sorted(set(earlier))


def alike(one, other, hand):
    return view(one, hand) == view(other, hand)


def cut_to(run, rounds):
    return (run[0], run[1][:rounds])
