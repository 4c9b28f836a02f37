"""Where all numbers up to a bound end, in tables."""

from figurerounds.figures.worths import worths_of
from figurerounds.figures.written import power_of
from figurerounds.rounds.down import length_down
from figurerounds.shelf import from_shelf


def leasts_to(most, base, power):
    """The least number of the round in which each number from 0 to most, or further, ends."""
    leasts = [least for _, least in first_ends(base, power)]
    steps = steps_to(most, worths_of(base, power))
    for number in range(len(leasts), len(steps)):
        leasts.append(leasts[steps[number]])
    return leasts


def aways_to(most, base, power):
    """How many steps each number from 0 to most, or further, is away from its round."""
    aways = [away for away, _ in first_ends(base, power)]
    steps = steps_to(most, worths_of(base, power))
    for number in range(len(aways), len(steps)):
        aways.append(aways[steps[number]] + 1)
    return aways


def first_ends(base, power):
    """Where each number ends as far as rounds go: pairs (steps away, least of its round).

    Each number behind these is in no round, and its step stands ahead of it.
    """
    # Numbers of fewer figures than length_down step to sums of so few worths,
    # and greater ones go down: so no step leads out of a table of this size.
    enough = (length_down(base, power) - 1) * power_of(base - 1, power)
    return from_shelf(ends_within, (enough, base, power))


def ends_within(most, base, power):
    """Where each number from 0 to most ends, where no step leads beyond: pairs as above."""
    steps = steps_to(most, worths_of(base, power))
    ends = {}
    for number in range(most + 1):
        add_ends(ends, steps, number)
    return [ends[number] for number in range(most + 1)]


def steps_to(most, worths):
    """The steps of the numbers from 0 to most, or a little further."""
    ahead = most // len(worths) + 1
    steps = list(worths)
    while len(steps) <= most:
        steps = [step + worth for step in steps[:ahead] for worth in worths]
    return steps


def add_ends(ends, steps, number):
    """Puts to the ends those of the number and of all that its steps lead to."""
    places = {}
    while number not in ends and number not in places:
        places[number] = len(places)
        number = steps[number]
    path = list(places)
    if number in places:
        turn = path[places[number]:]
        path = path[:places[number]]
        least = min(turn)
        for passed in turn:
            ends[passed] = (0, least)
    away, least = ends[number]
    for passed in path[::-1]:
        away += 1
        ends[passed] = (away, least)
