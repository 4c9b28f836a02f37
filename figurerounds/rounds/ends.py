"""The rounds of a pair, where numbers end, and the papers that show it."""

from figurerounds.errors import NoRound
from figurerounds.figures.written import row_from, step_of
from figurerounds.rounds.table import first_ends
from figurerounds.shelf import from_shelf


def rounds_of(base, power):
    """All rounds, each from its least number on, by their least numbers."""
    return from_shelf(rounds_made, (base, power))


def rounds_made(base, power):
    """All rounds, worked out anew."""
    firsts = [number for number, end in enumerate(first_ends(base, power)) if end == (0, number)]
    return tuple([tuple(way_of(first, base, power)[0]) for first in firsts])


def end_of(number, base, power):
    """How many steps the number is away from its round, and the round's least number."""
    way, away = way_of(number, base, power)
    return (away, min(way[away:]))


def ends_of(numbers, base, power):
    """Where each of the numbers ends."""
    return tuple([end_of(number, base, power) for number in numbers])


def end_paper(number, base, power):
    """The row from the number on till the least number of its round stands in it twice."""
    way, away = way_of(number, base, power)
    first_time = way.index(min(way[away:]))
    second_time = first_time + len(way) - away
    return row_from(number, base, power, second_time + 1)


def paper_shown(number, base, power, paper):
    """Whether the paper shows where the number ends."""
    # No step of what the paper holds is taken: its numbers may be of any size.
    return paper == end_paper(number, base, power)


def check_round(least, base, power):
    """Refuses with NoRound what is not the least number of a round."""
    if end_of(least, base, power) != (0, least):
        raise NoRound("no round has this least number")


def way_of(number, base, power):
    """The numbers that steps lead to from the number on, each once, and how many stand ahead of the round."""
    places = {}
    while number not in places:
        places[number] = len(places)
        number = step_of(number, base, power)
    return (list(places), places[number])
