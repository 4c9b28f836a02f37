"""The same asked again, also behind other calls and refusals, is answered the same."""

import unittest

from figurerounds.counts.below import counts_below, nth_in, place_of
from figurerounds.counts.runs import first_run, longest_run
from figurerounds.counts.shares import greatest_share, shares_of
from figurerounds.errors import FigureError, NoNumber, NoRound
from figurerounds.figures.least import how_many_with, least_away, least_with
from figurerounds.figures.own import own_numbers
from figurerounds.figures.written import (
    figures_of,
    number_shown,
    read_number,
    row_from,
    step_of,
)
from figurerounds.kept import KeptNumber
from figurerounds.rounds.down import greatest_kept, length_down, length_shown
from figurerounds.rounds.ends import end_of, end_paper, ends_of, paper_shown, rounds_of
from figurerounds.whole import Desk
from tests.plain import PAIRS


def all_told(base, power):
    told = [greatest_kept(base, power), length_down(base, power)]
    for length in (-1, 0, 2, 3, 4, 9):
        told.append(length_shown(base, power, length))
    for number in (0, 1, base, base ** 7 - 1, 987654321):
        told.append(number_shown(number, base))
        told.append(read_number(number_shown(number, base), base))
        told.append(figures_of(number, base))
        told.append(step_of(number, base, power))
        told.append(row_from(number, base, power, 12))
        told.append(end_of(number, base, power))
        told.append(end_paper(number, base, power))
        told.append(paper_shown(number, base, power, told[-1]))
        told.append(place_of(number, base, power))
        told.append(counts_below(number, base, power))
    told.append(rounds_of(base, power))
    told.append(ends_of((3, 3, base ** 12), base, power))
    told.append(own_numbers(base, 3))
    for total in (0, 7, 300):
        told.append(least_with(total, base, power))
        told.append(how_many_with(total, base, power, 4))
    told.append(least_away(2, base, power))
    for least in (0, 1, told[-1] or 0):
        told.append(nth_or_refused(5, least, base, power))
    for many in (1, 2, 5):
        told.append(shares_of(many, base, power))
        told.append(greatest_share(many, 1, base, power))
        told.append(first_run(many, 900, 1, base, power))
    for bound in (0, 900, 10 ** 5):
        told.append(longest_run(bound, 1, base, power))
    return told + desk_told(base, power)


def desk_told(base, power):
    desk = Desk()
    told = []
    for line in (
        f"pair {base} {power}", "put 1", "put 0", "show", "step", "ends", "rounds", "greatest", "length", "of 101",
        "least 7", "count 1101", "place 1 8", "place 0 8", "set 0 1", "show", "off", "show", "put x", "set 1 1",
        "of 9z", "place 1111 1", "other",
    ):
        told.append(answer_or_refused(desk, line))
    return told


def answer_or_refused(desk, line):
    try:
        return desk.ask(line)
    except FigureError as refusal:
        return (type(refusal), str(refusal))


def nth_or_refused(place, least, base, power):
    try:
        return nth_in(place, least, base, power)
    except NoRound as refusal:
        return str(refusal)


class AskedAgain(unittest.TestCase):
    def test_at_once(self):
        for base, power in PAIRS:
            self.assertEqual(all_told(base, power), all_told(base, power))

    def test_behind_all_the_others_and_in_another_order(self):
        first = {pair: all_told(*pair) for pair in PAIRS}
        for pair in reversed(PAIRS):
            self.assertEqual(all_told(*pair), first[pair])

    def test_behind_great_ones(self):
        for base, power in PAIRS:
            before = all_told(base, power)
            counts_below(10 ** 24, base, power)
            nth_in(10 ** 12, 1, base, power)
            how_many_with(9, base, power, 12)
            longest_run(10 ** 5, 1, base, power)
            self.assertEqual(all_told(base, power), before)

    def test_behind_other_desks_lines_and_seven_hundred_deeds(self):
        before = all_told(10, 2)
        number = KeptNumber(10, 2)
        desk = Desk()
        for deed in range(230):
            number.put_figure(deed % 10)
            desk.ask(f"put {deed % 10}")
            number.set_figure(0, 1)
            desk.ask("set 0 1")
            if deed > 30:
                number.take_off()
                desk.ask("off")
        told = (number.number_now(), number.step_now(), number.end_now(), desk.ask("show"), desk.ask("ends"))
        self.assertEqual(all_told(10, 2), before)
        self.assertEqual(
            told, (number.number_now(), number.step_now(), number.end_now(), desk.ask("show"), desk.ask("ends"))
        )

    def test_nothing_that_is_handed_in_is_changed(self):
        row, paper = (5, 5, 99, 0), (7, 49, 97, 130, 10, 1, 1)
        kept = (tuple(list(row)), tuple(list(paper)))
        ends_of(row, 10, 2)
        paper_shown(7, 10, 2, paper)
        self.assertEqual((row, paper), kept)

    def test_behind_a_refusal(self):
        before = all_told(10, 2)
        places = []
        for _ in range(2):
            with self.assertRaises(NoNumber) as caught:
                read_number("12x4", 10)
            places.append(caught.exception.place)
        self.assertEqual(places, [2, 2])
        self.assertEqual(all_told(10, 2), before)

    def test_behind_a_round_that_there_is_not(self):
        before = all_told(10, 2)
        for _ in range(2):
            with self.assertRaises(NoRound):
                nth_in(0, 16, 10, 2)
        self.assertEqual(all_told(10, 2), before)

    def test_each_pair_behind_another_one(self):
        pairs = ((10, 2), (9, 2), (10, 3), (2, 1), (11, 2), (10, 2))
        told = [end_of(8, *pair) for pair in pairs]
        self.assertEqual(told, [(5, 4), (2, 50), (6, 371), (1, 1), (4, 74), (5, 4)])
