"""Where all numbers up to a bound end, in one table."""

from figurerounds.figures.worths import worths_of
from figurerounds.rounds.down import length_down


def ends_to(most, base, power):
    """Where each number from 0 to most, or further, ends: pairs (steps away, least of its round).

    Each round of the pair stands in the table whole.
    """
    worths = worths_of(base, power)
    # Numbers of fewer figures than length_down step to sums of so few worths,
    # and greater ones go down: so no step leads out of a table of this size.
    enough = (length_down(base, power) - 1) * max(worths)
    steps = steps_to(max(most, enough), worths)
    ends = {}
    for number in range(len(steps)):
        add_ends(ends, steps, number)
    return [ends[number] for number in range(len(steps))]


def leasts_to(most, base, power):
    """The least number of the round in which each number from 0 to most, or further, ends."""
    return [least for _, least in ends_to(most, base, power)]


def steps_to(most, worths):
    """The steps of the numbers from 0 to most, or a little further."""
    base = len(worths)
    steps = list(worths)
    for number in range(base, most + 1):
        steps.append(steps[number // base] + worths[number % base])
    return steps


def add_ends(ends, steps, number):
    """Puts to the ends those of the number and of all that its steps lead to."""
    places = {}
    while number not in ends and number not in places:
        places[number] = len(places)
        number = steps[number]
    path = list(places)
    if number in places:
        turn = path[places[number]:]
        path = path[:places[number]]
        least = min(turn)
        for passed in turn:
            ends[passed] = (0, least)
    away, least = ends[number]
    for passed in path[::-1]:
        away += 1
        ends[passed] = (away, least)
