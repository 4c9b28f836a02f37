import pathlib
import subprocess
import sys
import unittest

from figurerounds.figures.written import step_of
from figurerounds.rounds.down import greatest_kept, length_down, length_shown
from tests.plain import PAIRS, plain_length, plain_step, steps_below

ROOT = pathlib.Path(__file__).resolve().parent.parent

GREAT_LENGTHS = """
from figurerounds.rounds.down import length_shown
from tests.plain import PAIRS

lengths = (1000, 10 ** 6, 10 ** 12, 10 ** 40, 10 ** 400)
print(all(length_shown(*pair, length) is True for pair in PAIRS for length in lengths))
"""


class GreatestKept(unittest.TestCase):
    def test_known_ones(self):
        for base, power, number in (
            (2, 1, 1),
            (2, 10, 1),
            (10, 1, 9),
            (10, 2, 99),
            (10, 3, 1999),
            (16, 1, 15),
        ):
            with self.subTest(base=base, power=power):
                self.assertEqual(greatest_kept(base, power), number)

    def test_all_pairs_one_by_one(self):
        for base, power in PAIRS:
            with self.subTest(base=base, power=power):
                # One figure more than the numbers that are not shown to go down.
                steps = steps_below(base ** plain_length(base, power), base, power)
                kept = [number for number, step in enumerate(steps) if step >= number]
                told = greatest_kept(base, power)
                self.assertEqual(told, kept[-1])
                self.assertIs(type(told), int)

    def test_its_own_step_is_not_less_and_the_next_ones_are(self):
        for base, power in PAIRS:
            told = greatest_kept(base, power)
            self.assertGreaterEqual(step_of(told, base, power), told)
            for number in range(told + 1, told + 300):
                self.assertLess(step_of(number, base, power), number)

    def test_much_greater_ones_go_down(self):
        for base, power in PAIRS:
            told = greatest_kept(base, power)
            for number in (2 * told + base ** 9, 10 ** 20 + told, 16 ** 40 - 1):
                self.assertLess(plain_step(number, base, power), number)


class Lengths(unittest.TestCase):
    def test_known_ones(self):
        for base, power, length in (
            (2, 1, 3),
            (2, 10, 3),
            (3, 1, 3),
            (10, 1, 3),
            (10, 2, 4),
            (10, 3, 5),
            (16, 2, 4),
        ):
            with self.subTest(base=base, power=power):
                self.assertEqual(length_down(base, power), length)

    def test_the_least_length_of_all_pairs(self):
        for base, power in PAIRS:
            told = length_down(base, power)
            self.assertEqual(told, plain_length(base, power))
            self.assertIs(type(told), int)

    def test_it_shows_that_so_many_figures_go_down(self):
        for base, power in PAIRS:
            length = length_down(base, power)
            self.assertLess(greatest_kept(base, power), base ** (length - 1))

    def test_all_lengths_looked_at(self):
        for base, power in PAIRS:
            for length in range(-30, 60):
                told = length_shown(base, power, length)
                shown = length >= 2 and length * (base - 1) ** power < base ** (length - 1)
                self.assertIs(told, shown)

    def test_around_the_least_length(self):
        for base, power in PAIRS:
            least = length_down(base, power)
            self.assertIs(length_shown(base, power, least - 1), False)
            self.assertIs(length_shown(base, power, least), True)
            self.assertIs(length_shown(base, power, least + 1), True)

    def test_below_two(self):
        for base, power in PAIRS:
            for length in (-10 ** 40, -3, -1, 0, 1):
                self.assertIs(length_shown(base, power, length), False)

    def test_very_great_lengths_are_answered_soon(self):
        # In a process of its own: where it takes too long, the test fails instead of hanging.
        ended = subprocess.run(
            [sys.executable, "-c", GREAT_LENGTHS], cwd=ROOT, timeout=60, capture_output=True, text=True
        )
        self.assertEqual(ended.stdout, "True\n", ended.stderr)
