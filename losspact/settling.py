"""Settling: behind how many rounds a hand has seen enough to be sure of the value of its run."""

from losspact.runs import all_runs
from losspact.views import cut_to, view


def settled(hands, road, rounds, starts, table, number, hand):
    runs = all_runs(road, rounds, starts)
    values = [table[view(run, hand)] for run in runs]
    same = list(range(len(runs)))
    for behind in range(rounds):
        # A hand forgets nothing: runs that look the same to it behind more rounds did so behind fewer.
        same = looking_as(runs, same, number, behind, hand)
        if all([values[other] == values[number] for other in same]):
            return behind
    return rounds


def looking_as(runs, numbers, number, behind, hand):
    looks = view(cut_to(runs[number], behind), hand)
    return [other for other in numbers if view(cut_to(runs[other], behind), hand) == looks]
