"""Numbers one behind the other that all end in one round.

Of a round only those runs matter that are longer than all runs ahead of them: the
first run of so many numbers is one of these, and the longest below a bound, too.
They are called growing here: pairs (first number, length).
"""

from figurerounds.figures.worths import worths_of
from figurerounds.rounds.ends import check_round
from figurerounds.rounds.table import leasts_to, steps_to
from figurerounds.shelf import from_shelf, size_to_make

USUAL_BOUND = 10 ** 5


def first_run(many, bound, least, base, power):
    """The first of so many numbers below the bound, one behind the other, that end in the round; None; NoRound."""
    for first, length in growing_in(bound, least, base, power):
        if length >= many:
            return first if first + many <= bound else None
    return None


def longest_run(bound, least, base, power):
    """The longest run of the round below the bound: (length, first number), (0, None) for none; or NoRound."""
    longest = (0, None)
    for first, length in growing_in(bound, least, base, power):
        # The bound may stand amid the run, or ahead of it.
        below = min(length, bound - first)
        if below > longest[0]:
            longest = (below, first)
    return longest


def growing_in(bound, least, base, power):
    """The growing runs of the round below the bound, or further; or NoRound."""
    check_round(least, base, power)
    size = size_to_make(bound, USUAL_BOUND)
    return from_shelf(growing_runs, (size, base, power)).get(least, [])


def growing_runs(bound, base, power):
    """The growing runs below the bound, where the last one may go on, by the least numbers of their rounds."""
    steps = steps_to(bound, worths_of(base, power))[:bound]
    leasts = leasts_to(max(steps), base, power)
    # A number ends in the round in which its step ends; None ends the last run.
    ends = [leasts[step] for step in steps] + [None]
    growing = {}
    first = 0
    for number, end in enumerate(ends):
        if end != ends[first]:
            add_growing(growing.setdefault(ends[first], []), first, number - first)
            first = number
    return growing


def add_growing(runs, first, length):
    """Puts the run behind the others, where it is longer than they are."""
    if runs == [] or length > runs[-1][1]:
        runs.append((first, length))
