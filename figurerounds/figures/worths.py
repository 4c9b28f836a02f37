"""What figures are worth once taken to the power, and in how many ways they make each sum."""

from figurerounds.figures.written import power_of
from figurerounds.shelf import from_shelf


def worths_of(base, power):
    """What each figure of the base adds to a step, from the figure 0 on."""
    return [power_of(figure, power) for figure in range(base)]


def ways_of(many, base, power):
    """In how many ways so many figures, noughts ahead among them, make each sum from 0 on."""
    if many == 0:
        return [1]
    return one_figure_more(from_shelf(ways_of, (many - 1, base, power)), worths_of(base, power))


def one_figure_more(ways, worths):
    """The ways to each sum from 0 on where any one figure is put to what these are the ways of."""
    most = max(worths)
    # A row for each figure, all of one length: the old ways, moved up by its worth.
    rows = [[0] * worth + ways + [0] * (most - worth) for worth in worths]
    return [sum(column) for column in zip(*rows)]
