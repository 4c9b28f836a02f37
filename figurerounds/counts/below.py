"""How many numbers below a bound end in each round, and the so-manieth that does."""

from figurerounds.counts.endings import blocks_in, endings_of
from figurerounds.rounds.ends import check_round, end_of


def counts_below(bound, base, power):
    """How many numbers from 0 below the bound end in each round, by the rounds' least numbers."""
    endings = endings_of(blocks_in(bound, base), base, power)
    return endings.counts(endings.below(bound))


def nth_in(place, least, base, power):
    """The number at the place, from 0 on, among those that end in the round; else None or NoRound."""
    check_round(least, base, power)
    # Only 0 has the step 0, so no other number ends in its round.
    if least == 0:
        return 0 if place == 0 else None
    # Any other round goes on without end: what ends there still does with noughts behind it.
    many = blocks_in(place, base)
    endings = endings_of(many, base, power)
    while endings.count_in(endings.within(many), least) <= place:
        many += 1
        endings = endings_of(many, base, power)
    return endings.number_at(place, least, many)


def place_of(number, base, power):
    """How many lesser numbers end in the same round as the number."""
    least = end_of(number, base, power)[1]
    endings = endings_of(blocks_in(number, base), base, power)
    return endings.count_in(endings.below(number), least)
