"""Numbers as they are written in a base, and the steps from number to number."""

from figurerounds.errors import NoNumber

FIGURES = "0123456789abcdef"


def read_number(text, base):
    """The number that the text writes in the base; else NoNumber with the place."""
    # A nought ahead is the first wrong sign, whatever stands behind it.
    if text == "" or (text[0] == "0" and len(text) > 1):
        raise NoNumber(0)
    number = 0
    for place, sign in enumerate(text):
        figure = FIGURES.find(sign)
        if figure < 0 or figure >= base:
            raise NoNumber(place)
        number = number * base + figure
    return number


def number_shown(number, base):
    """The text that writes the number in the base."""
    return "".join([FIGURES[figure] for figure in figures_of(number, base)])


def figures_of(number, base):
    """The figures of the number as whole numbers, the greatest place first."""
    figures = [number % base]
    rest = number // base
    while rest > 0:
        figures.append(rest % base)
        rest = rest // base
    return tuple(figures[::-1])


def power_of(figure, power):
    """The figure, taken to the power."""
    worth = 1
    for _ in range(power):
        worth = worth * figure
    return worth


def step_of(number, base, power):
    """The sum of the number's figures, each taken to the power."""
    return sum([power_of(figure, power) for figure in figures_of(number, base)])


def row_from(number, base, power, many):
    """So many numbers, the number first, each the step of the one ahead."""
    row = []
    for _ in range(many):
        row.append(number)
        number = step_of(number, base, power)
    return tuple(row)
