"""Which numbers go down: their step is less than they are."""

from figurerounds.figures.written import power_of


def length_down(base, power):
    """The least length that shows that all numbers of so many figures or more go down."""
    most = power_of(base - 1, power)
    length = 2
    # The least number of so many figures: the base taken to the power of length less 1.
    least = base
    while length * most >= least:
        length += 1
        least = least * base
    return length


def length_shown(base, power, length):
    """Whether the length shows that all numbers of so many figures or more go down."""
    # From 2 on, one figure more makes the sum of powers at most half as great
    # again, but the least number as many times as great as the base tells: what
    # is shown once stays so, and a great length needs no power of its own.
    return length >= length_down(base, power)


def greatest_kept(base, power):
    """The greatest number whose step is not less than itself."""
    rows = gains_by_place(base, power, length_down(base, power) - 1)
    # What the step may have beyond the number, as long as the places to come
    # get their best figures. Each place adds for itself, so the greatest figure
    # that leaves this at 0 or more, place by place, makes the greatest number.
    spare = sum([max(gains) for gains in rows])
    number = 0
    for gains in rows:
        figure = greatest_figure(gains, max(gains) - spare)
        spare = spare - max(gains) + gains[figure]
        number = number * base + figure
    return number


def gains_by_place(base, power, many):
    """For each of so many places, the greatest first, what each figure there adds to step less number."""
    powers = [power_of(figure, power) for figure in range(base)]
    rows = []
    weight = 1
    for _ in range(many):
        rows.append([powers[figure] - figure * weight for figure in range(base)])
        weight = weight * base
    return rows[::-1]


def greatest_figure(gains, needed):
    """The greatest figure that adds as much as needed."""
    return max([figure for figure, gain in enumerate(gains) if gain >= needed])
