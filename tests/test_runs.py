import random
import unittest

from figurerounds.counts.runs import first_run, longest_run
from figurerounds.errors import FigureError, NoRound
from tests.plain import PAIRS, plain_ends, plain_rounds, steps_below

GREATEST = 10 ** 5


def leasts_of(base, power):
    return [turn[0] for turn in plain_rounds(base, power)]


def ends_below(bound, base, power):
    """Where the numbers below the bound end: great ones where their steps do."""
    steps = steps_below(bound, base, power)
    small = [least for _, least in plain_ends(max(steps, default=0) + 1, base, power)]
    return [small[step] for step in steps]


def first_by_going_along(many, ends, least):
    length = 0
    for number, end in enumerate(ends):
        length = length + 1 if end == least else 0
        if length == many:
            return number - many + 1
    return None


def longest_by_going_along(ends, least):
    longest = (0, None)
    length = 0
    for number, end in enumerate(ends):
        length = length + 1 if end == least else 0
        if length > longest[0]:
            longest = (length, number - length + 1)
    return longest


def some_bounds(base, power):
    chance = random.Random(f"runs {base} {power}")
    return [0, 1, 2, 3, base, base + 1, 50, 97, 98, 99, 100] + [chance.randrange(2500) for _ in range(12)] + [2500]


class FirstRun(unittest.TestCase):
    def test_known_ones(self):
        for many, bound, least, base, power, first in (
            (1, 1, 0, 10, 2, 0),
            (1, 0, 0, 10, 2, None),
            (2, 100, 0, 10, 2, None),
            (1, 1, 1, 10, 2, None),
            (1, 2, 1, 10, 2, 1),
            (2, 100, 1, 10, 2, 31),
            (2, 33, 1, 10, 2, 31),
            (2, 32, 1, 10, 2, None),
            (5, 10 ** 5, 1, 10, 2, 44488),
            (5, 44493, 1, 10, 2, 44488),
            (5, 44492, 1, 10, 2, None),
            (6, 10 ** 5, 1, 10, 2, None),
            (12, 13, 1, 2, 1, 1),
            (12, 12, 1, 2, 1, None),
            (3, 7, 4, 10, 2, 2),
        ):
            with self.subTest(many=many, bound=bound, least=least, base=base, power=power):
                self.assertEqual(first_run(many, bound, least, base, power), first)

    def test_all_pairs_by_going_along(self):
        for base, power in PAIRS:
            ends = ends_below(2500, base, power)
            for bound in some_bounds(base, power):
                for least in leasts_of(base, power):
                    for many in (1, 2, 3, 4, 7, 12):
                        with self.subTest(many=many, bound=bound, least=least, base=base, power=power):
                            told = first_run(many, bound, least, base, power)
                            self.assertEqual(told, first_by_going_along(many, ends[:bound], least))

    def test_great_bounds_by_going_along(self):
        for base, power in ((2, 3), (3, 9), (4, 3), (7, 3), (9, 2), (10, 1), (10, 2), (10, 3), (11, 3), (16, 2)):
            ends = ends_below(GREATEST, base, power)
            for bound in (GREATEST, GREATEST - 1, 54321):
                for least in leasts_of(base, power):
                    for many in range(1, 13):
                        told = first_run(many, bound, least, base, power)
                        self.assertEqual(told, first_by_going_along(many, ends[:bound], least))

    def test_a_run_that_would_reach_the_bound_or_go_beyond_it(self):
        for base, power in ((10, 2), (7, 3), (16, 2)):
            for least in leasts_of(base, power)[1:]:
                for many in (2, 3, 4):
                    first = first_run(many, GREATEST, least, base, power)
                    if first is None:
                        continue
                    self.assertEqual(first_run(many, first + many, least, base, power), first)
                    for bound in range(first, first + many):
                        self.assertIsNone(first_run(many, bound, least, base, power))


class LongestRun(unittest.TestCase):
    def test_known_ones(self):
        for bound, least, base, power, run in (
            (0, 0, 10, 2, (0, None)),
            (1, 0, 10, 2, (1, 0)),
            (10 ** 5, 0, 10, 2, (1, 0)),
            (1, 1, 10, 2, (0, None)),
            (2, 1, 10, 2, (1, 1)),
            (31, 1, 10, 2, (1, 1)),
            (32, 1, 10, 2, (1, 1)),
            (33, 1, 10, 2, (2, 31)),
            (10 ** 5, 1, 10, 2, (5, 44488)),
            (44492, 1, 10, 2, (4, 7839)),
            (10 ** 5, 1, 2, 7, (99999, 1)),
            (5, 1, 2, 7, (4, 1)),
            (10 ** 5, 3, 10, 1, (1, 3)),
        ):
            with self.subTest(bound=bound, least=least, base=base, power=power):
                self.assertEqual(longest_run(bound, least, base, power), run)

    def test_all_pairs_by_going_along(self):
        for base, power in PAIRS:
            ends = ends_below(2500, base, power)
            for bound in some_bounds(base, power):
                for least in leasts_of(base, power):
                    with self.subTest(bound=bound, least=least, base=base, power=power):
                        told = longest_run(bound, least, base, power)
                        self.assertEqual(told, longest_by_going_along(ends[:bound], least))
                        self.assertIs(type(told), tuple)

    def test_each_small_bound(self):
        for base, power in ((3, 2), (4, 4), (6, 3), (10, 2), (10, 3), (12, 2)):
            ends = ends_below(300, base, power)
            for bound in range(301):
                for least in leasts_of(base, power):
                    told = longest_run(bound, least, base, power)
                    self.assertEqual(told, longest_by_going_along(ends[:bound], least))

    def test_great_bounds_by_going_along(self):
        for base, power in ((2, 3), (3, 9), (4, 3), (7, 3), (9, 2), (10, 1), (10, 2), (10, 3), (11, 3), (16, 2)):
            ends = ends_below(GREATEST, base, power)
            for bound in (GREATEST, GREATEST - 1, GREATEST - 2, 77777, 25000, 25001, 6250):
                for least in leasts_of(base, power):
                    told = longest_run(bound, least, base, power)
                    self.assertEqual(told, longest_by_going_along(ends[:bound], least))

    def test_somewhat_beyond_the_greatest_bounds(self):
        for base, power in ((2, 3), (4, 3), (10, 2)):
            ends = ends_below(GREATEST + 30000, base, power)
            for least in leasts_of(base, power):
                told = longest_run(len(ends), least, base, power)
                self.assertEqual(told, longest_by_going_along(ends, least))

    def test_none_ends_there(self):
        for bound in (0, 1, 5):
            self.assertEqual(longest_run(bound, 5, 3, 2), (0, None))
        self.assertEqual(longest_run(6, 5, 3, 2), (1, 5))


class NoSuchRound(unittest.TestCase):
    def test_of_both(self):
        for base, power in PAIRS:
            leasts = leasts_of(base, power)
            amid = [number for turn in plain_rounds(base, power) for number in turn[1:]]
            beside = [number for number in range(60) if number not in leasts]
            for least in amid + beside + [10 ** 12, 16 ** 40 - 1]:
                for bound in (0, 1, GREATEST):
                    for asked in (lambda: first_run(1, bound, least, base, power),
                                  lambda: longest_run(bound, least, base, power)):
                        with self.assertRaises(NoRound) as caught:
                            asked()
                        self.assertIs(type(caught.exception), NoRound)
                        self.assertIsInstance(caught.exception, FigureError)
