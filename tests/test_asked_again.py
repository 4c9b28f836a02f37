"""The same asked again, also behind other calls and refusals, is answered the same."""

import unittest

from figurerounds.errors import NoNumber
from figurerounds.figures.written import (
    figures_of,
    number_shown,
    read_number,
    row_from,
    step_of,
)
from figurerounds.rounds.down import greatest_kept, length_down, length_shown
from tests.plain import PAIRS


def all_told(base, power):
    told = [greatest_kept(base, power), length_down(base, power)]
    for length in (-1, 0, 2, 3, 4, 9):
        told.append(length_shown(base, power, length))
    for number in (0, 1, base, base ** 7 - 1, 987654321):
        told.append(number_shown(number, base))
        told.append(read_number(number_shown(number, base), base))
        told.append(figures_of(number, base))
        told.append(step_of(number, base, power))
        told.append(row_from(number, base, power, 12))
    return told


class AskedAgain(unittest.TestCase):
    def test_at_once(self):
        for base, power in PAIRS:
            self.assertEqual(all_told(base, power), all_told(base, power))

    def test_behind_all_the_others_and_in_another_order(self):
        first = {pair: all_told(*pair) for pair in PAIRS}
        for pair in reversed(PAIRS):
            self.assertEqual(all_told(*pair), first[pair])

    def test_behind_a_refusal(self):
        before = all_told(10, 2)
        places = []
        for _ in range(2):
            with self.assertRaises(NoNumber) as caught:
                read_number("12x4", 10)
            places.append(caught.exception.place)
        self.assertEqual(places, [2, 2])
        self.assertEqual(all_told(10, 2), before)
