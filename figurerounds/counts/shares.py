"""Which share of the numbers of just so many figures ends in each round."""

from math import gcd

from figurerounds.figures.least import how_many_with
from figurerounds.figures.written import power_of
from figurerounds.rounds.ends import check_round, rounds_of
from figurerounds.rounds.table import leasts_to
from figurerounds.shelf import from_shelf


def shares_of(many, base, power):
    """The share of the numbers of so many figures that end in each round, by the rounds' least numbers."""
    return from_shelf(shares_made, (many, base, power))


def greatest_share(most, least, base, power):
    """By how many figures, from 1 to the most, the share of the round is greatest: the fewest; or NoRound."""
    check_round(least, base, power)
    at = [turn[0] for turn in rounds_of(base, power)].index(least)
    best = 1
    for many in range(2, most + 1):
        if is_greater(shares_of(many, base, power)[at], shares_of(best, base, power)[at]):
            best = many
    return best


def shares_made(many, base, power):
    """The shares, worked out anew."""
    counts = counts_of(many, base, power)
    whole = sum(counts)
    return tuple([fraction(count, whole) for count in counts])


def counts_of(many, base, power):
    """How many numbers of just so many figures end in each round, by the rounds' least numbers."""
    most = many * power_of(base - 1, power)
    leasts = leasts_to(most, base, power)
    counts = {turn[0]: 0 for turn in rounds_of(base, power)}
    # A number ends in the round in which its step ends.
    for total in range(most + 1):
        counts[leasts[total]] += how_many_with(total, base, power, many)
    return list(counts.values())


def fraction(part, whole):
    """The part of the whole, a pair (above, below) in least numbers."""
    common = gcd(part, whole)
    return (part // common, whole // common)


def is_greater(one, other):
    """Whether one fraction is greater than the other."""
    return one[0] * other[1] > other[0] * one[1]
