"""The least numbers with a step or so far from their round, and how many have a step.

A set of sums is kept here as one whole number: its bit of the place s, counted
from 0, is set where the sum s is in it. So all sums move up by a figure's worth
in one shift.
"""

from figurerounds.figures.worths import ways_of, worths_of
from figurerounds.figures.written import power_of
from figurerounds.rounds.table import aways_to
from figurerounds.shelf import from_shelf

MOST_FIGURES = 40


def least_with(total, base, power):
    """The least number whose step is the total, or None where it has more than 40 figures."""
    return least_of_sums(1 << total, base, power)


def how_many_with(total, base, power, many):
    """How many numbers of just so many figures have the total as their step."""
    ways = ways_to(total, base, power, many)
    # Only the number 0 begins with a nought; of more figures those that do are left out.
    return ways if many == 1 else ways - ways_to(total, base, power, many - 1)


def ways_to(total, base, power, many):
    """In how many ways so many figures, noughts ahead among them, make the total."""
    ways = from_shelf(ways_of, (many, base, power))
    return ways[total] if total < len(ways) else 0


def least_away(steps, base, power):
    """The least number that needs so many steps into its round, or None beyond 40 figures."""
    return from_shelf(least_needing, (steps, base, power))


def least_needing(steps, base, power):
    """The least number that needs so many steps, worked out anew; or None."""
    aways = from_shelf(aways_to, (MOST_FIGURES * power_of(base - 1, power), base, power))
    if steps in aways:
        return aways.index(steps)
    # It is beyond the table, so in no round, and its step is one step nearer;
    # the steps of all numbers of at most 40 figures stand in the table.
    goals = sums_among([number for number, away in enumerate(aways) if away == steps - 1])
    return least_of_sums(goals, base, power)


def sums_among(totals):
    """The set of these sums, as one whole number."""
    sums = 0
    for total in totals:
        sums = sums | (1 << total)
    return sums


def least_of_sums(goals, base, power):
    """The least number whose step is among the goals, or None where it has more than 40 figures."""
    within = from_shelf(sums_within, (MOST_FIGURES, base, power))
    many = 0
    while (within[many] & goals) == 0:
        if many == MOST_FIGURES:
            return None
        many += 1
    return least_within(goals, worths_of(base, power), within[:many])


def sums_within(most, base, power):
    """The sums that at most so many figures make: for none, for one, and on to the most."""
    worths = worths_of(base, power)
    within = [1]
    for _ in range(most):
        within.append(sums_with_one_more(within[-1], worths))
    return within


def sums_with_one_more(sums, worths):
    """The sums where any one figure is put to what makes these."""
    more = 0
    for worth in worths:
        more = more | (sums << worth)
    return more


def least_within(goals, worths, within):
    """The least number whose step is among the goals, of as many figures as within has entries.

    Entry k of within holds the sums of at most k figures; fewer figures reach no goal.
    """
    number = 0
    for rests in within[::-1]:
        # A nought would leave a goal to fewer figures, so none is tried.
        figure = 1
        while ((goals >> worths[figure]) & rests) == 0:
            figure += 1
        goals = goals >> worths[figure]
        number = number * len(worths) + figure
    return number
