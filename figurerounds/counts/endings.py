"""In which rounds numbers end, counted by the sum of what stands ahead of their last figures.

Some figures side by side are taken as one block: a figure of a greater base, worth
what its figures are worth together. The counts of all rounds stand side by side in
one whole number, called packed here, so that one sum adds them all.
"""

from figurerounds.figures.worths import worths_of
from figurerounds.figures.written import figures_of, power_of
from figurerounds.rounds.ends import rounds_of
from figurerounds.rounds.table import leasts_to, steps_to
from figurerounds.shelf import from_shelf, size_to_make

# Greater blocks make fewer rows, but more sums to go through in each.
MOST_BLOCKS = 256

USUAL_BOUND = 10 ** 24


class Endings:
    """In which rounds the numbers of at most so many blocks end."""

    def __init__(self, many, base, power):
        figures = figures_in_block(base)
        worths = worths_of(base, power)
        self.base = power_of(base, figures)
        self.worths = steps_to(self.base - 1, worths)
        # No round has more numbers than there are, so no count runs into the next one.
        self.bits = power_of(self.base, many).bit_length()
        rounds = [turn[0] for turn in rounds_of(base, power)]
        self.places = {least: self.bits * place for place, least in enumerate(rounds)}
        leasts = leasts_to(many * max(self.worths), base, power)
        # Row k tells of each sum where it and k blocks behind it end.
        self.rows = [[1 << self.places[least] for least in leasts]]
        for _ in range(many):
            self.rows.append(with_figures_behind(self.rows[-1], figures, worths))

    def below(self, bound):
        """How many numbers from 0 below the bound end in each round: packed."""
        packed = 0
        total = 0
        blocks = figures_of(bound, self.base)
        for block, row in zip(blocks, self.rows[:len(blocks)][::-1]):
            packed += sum([row[total + worth] for worth in self.worths[:block]])
            total += self.worths[block]
        return packed

    def within(self, many):
        """How many numbers of at most so many blocks end in each round: packed."""
        return self.rows[many][0]

    def count_in(self, packed, least):
        """How many of the packed counts end in the round with this least number."""
        return (packed >> self.places[least]) & ((1 << self.bits) - 1)

    def counts(self, packed):
        """The packed counts, by the rounds' least numbers."""
        return tuple([self.count_in(packed, least) for least in self.places])

    def number_at(self, place, least, many):
        """The number at the place among those of at most so many blocks that end in the round."""
        number = 0
        total = 0
        for row in self.rows[:many][::-1]:
            block = 0
            ending = self.count_in(row[total], least)
            while place >= ending:
                place -= ending
                block += 1
                ending = self.count_in(row[total + self.worths[block]], least)
            total += self.worths[block]
            number = number * self.base + block
        return number


def endings_of(many, base, power):
    """The endings of the numbers of so many blocks, and perhaps of more."""
    usual = blocks_in(USUAL_BOUND, base)
    return from_shelf(endings_made, (size_to_make(many, usual), base, power))


def endings_made(many, base, power):
    """The endings of the numbers of at most so many blocks."""
    return Endings(many, base, power)


def blocks_in(number, base):
    """How many blocks the number has."""
    return len(figures_of(number, power_of(base, figures_in_block(base))))


def figures_in_block(base):
    """How many figures make a block."""
    figures = 1
    blocks = base
    while blocks * base <= MOST_BLOCKS:
        figures += 1
        blocks = blocks * base
    return figures


def with_figures_behind(row, figures, worths):
    """The row for so many figures more behind each sum; it tells of as many sums less as these are worth."""
    for _ in range(figures):
        # Where each figure leads, side by side; the shortest of these rows tells how far.
        behind = [row[worth:] for worth in worths]
        row = [sum(column) for column in zip(*behind)]
    return row
