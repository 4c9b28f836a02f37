"""How many numbers below a bound end in each round, and the so-manieth that does."""

from figurerounds.figures.worths import one_figure_more, worths_of
from figurerounds.figures.written import figures_of
from figurerounds.rounds.ends import check_round, end_of
from figurerounds.rounds.table import leasts_to


def counts_below(bound, base, power):
    """How many numbers from 0 below the bound end in each round, by the rounds' least numbers."""
    ways = ways_below(bound, base, power)
    leasts = leasts_to(len(ways) - 1, base, power)
    counts = {number: 0 for number, least in enumerate(leasts) if number == least}
    for count, least in zip(ways, leasts):
        counts[least] += count
    return tuple(counts.values())


def nth_in(place, least, base, power):
    """The number at the place, from 0 on, among those that end in the round; else None or NoRound."""
    check_round(least, base, power)
    # Only 0 has the step 0, so no other number ends in its round.
    if least == 0:
        return 0 if place == 0 else None
    worths = worths_of(base, power)
    rows, leasts = rows_beyond(place, least, base, power)
    number = 0
    for ways in rows[::-1]:
        figure, place = next_figure(place, least, leasts, ways, worths)
        # From here on sums begin with what the figures so far are worth.
        leasts = leasts[worths[figure]:]
        number = number * base + figure
    return number


def place_of(number, base, power):
    """How many lesser numbers end in the same round as the number."""
    least = end_of(number, base, power)[1]
    ways = ways_below(number, base, power)
    return ways_into(least, leasts_to(len(ways) - 1, base, power), ways)


def ways_below(bound, base, power):
    """How many numbers from 0 below the bound have each sum from 0 on as their step."""
    worths = worths_of(base, power)
    ways = [0]
    total = 0
    # Figure by figure: what is less than the bound as far as it is read stays
    # so, whatever follows; what is like it becomes less by a lesser figure.
    for figure in figures_of(bound, base):
        ways = one_figure_more(ways, worths)
        for lesser in range(figure):
            ways[total + worths[lesser]] += 1
        total += worths[figure]
    return ways


def ways_into(least, leasts, ways):
    """How many of the ways lead to sums that end in the round; leasts begins with that of the sum 0."""
    return sum([count for count, other in zip(ways, leasts) if other == least])


def next_figure(place, least, leasts, ways, worths):
    """The next figure of the number at the place, and its place among those with this figure.

    The ways are those of all figures behind it; leasts begins with that of the sum so far.
    """
    figure = 0
    ending = ways_into(least, leasts, ways)
    while place >= ending:
        place -= ending
        figure += 1
        ending = ways_into(least, leasts[worths[figure]:], ways)
    return (figure, place)


def rows_beyond(place, least, base, power):
    """The ways of 0, 1, 2 and on figures, one row for each figure of the number at the place; and leasts.

    This ends in any round but that of 0: what ends there still does with noughts behind it.
    """
    worths = worths_of(base, power)
    rows = []
    ways = [1]
    leasts = leasts_to(0, base, power)
    while ways_into(least, leasts, ways) <= place:
        rows.append(ways)
        ways = one_figure_more(ways, worths)
        # Twice as far as needed, so that the table is made only a few times.
        if len(ways) > len(leasts):
            leasts = leasts_to(2 * len(ways), base, power)
    return (rows, leasts)
