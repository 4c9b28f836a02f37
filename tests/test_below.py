import itertools
import math
import random
import unittest

from figurerounds.counts.below import counts_below, nth_in, place_of
from figurerounds.errors import FigureError, NoRound
from figurerounds.rounds.ends import end_of, rounds_of
from tests.plain import PAIRS, plain_end, plain_ends, plain_rounds

BOUND = 2500
GREATEST = 10 ** 24


def leasts_of(base, power):
    return [turn[0] for turn in plain_rounds(base, power)]


def turning_bounds(base):
    """0, 1, the powers of the base, and one less and one more than these."""
    bounds = {0, 1, 2, 3}
    worth = 1
    while worth < BOUND:
        bounds.update((worth - 1, worth, min(worth + 1, BOUND)))
        worth *= base
    return sorted(bounds) + [777, BOUND - 1, BOUND]


def great_numbers(base, power):
    """Numbers up to 10 ** 24, the same ones each time, and some where their writing turns."""
    chance = random.Random(f"{base} {power}")
    numbers = [chance.randrange(10 ** size) for size in (5, 9, 14, 24)]
    worth = base
    while worth * base <= GREATEST:
        worth *= base
    return numbers + [worth - 1, worth, GREATEST - 1]


def counts_by_handfuls(many, base, power):
    """How many numbers below base ** many end in each round, by each handful of figures and its orders."""
    counts = dict.fromkeys(leasts_of(base, power), 0)
    for figures in itertools.combinations_with_replacement(range(base), many):
        orders = math.factorial(many)
        for figure in set(figures):
            orders //= math.factorial(figures.count(figure))
        counts[plain_end(sum(figure ** power for figure in figures), base, power)[1]] += orders
    return tuple(counts.values())


class CountsBelow(unittest.TestCase):
    def test_known_ones(self):
        for bound, base, power, counts in (
            (0, 10, 2, (0, 0, 0)),
            (1, 10, 2, (1, 0, 0)),
            (2, 10, 2, (1, 1, 0)),
            (3, 10, 2, (1, 1, 1)),
            (10, 10, 2, (1, 2, 7)),
            (11, 10, 2, (1, 3, 7)),
            (100, 10, 2, (1, 19, 80)),
            (10 ** 7, 10, 2, (1, 1418853, 8581146)),
            (10, 10, 1, (1,) * 10),
            (11, 10, 1, (1, 2) + (1,) * 8),
            (2 ** 60, 2, 10, (1, 2 ** 60 - 1)),
        ):
            with self.subTest(bound=bound, base=base, power=power):
                self.assertEqual(counts_below(bound, base, power), counts)

    def test_below_nought_and_one(self):
        for base, power in PAIRS:
            many = len(plain_rounds(base, power))
            self.assertEqual(counts_below(0, base, power), (0,) * many)
            self.assertEqual(counts_below(1, base, power), (1,) + (0,) * (many - 1))

    def test_small_bounds_by_going_through(self):
        for base, power in PAIRS:
            leasts = leasts_of(base, power)
            ends = [least for _, least in plain_ends(BOUND, base, power)]
            for bound in turning_bounds(base):
                with self.subTest(bound=bound, base=base, power=power):
                    told = counts_below(bound, base, power)
                    self.assertEqual(told, tuple(ends[:bound].count(least) for least in leasts))

    def test_great_powers_of_the_base_by_handfuls_of_figures(self):
        for base, power, many in (
            (2, 1, 79), (2, 10, 79), (3, 2, 50), (3, 9, 50), (4, 6, 25), (5, 4, 12), (7, 3, 9),
            (9, 3, 7), (10, 2, 7), (10, 3, 7), (11, 3, 6), (16, 2, 5),
        ):
            with self.subTest(base=base, power=power, many=many):
                told = counts_below(base ** many, base, power)
                self.assertEqual(told, counts_by_handfuls(many, base, power))

    def test_the_counts_together_are_the_bound(self):
        for base, power in PAIRS:
            for bound in great_numbers(base, power)[:3] + [GREATEST]:
                told = counts_below(bound, base, power)
                self.assertEqual(sum(told), bound)
                self.assertEqual(len(told), len(plain_rounds(base, power)))

    def test_somewhat_beyond_the_greatest_bounds(self):
        for base, power in ((2, 3), (3, 5), (7, 2), (10, 2), (13, 2), (16, 1)):
            leasts = leasts_of(base, power)
            for bound in (10 ** 25, 10 ** 27, base ** 9 * 10 ** 19 + 5):
                below = counts_below(bound, base, power)
                above = counts_below(bound + 1, base, power)
                self.assertEqual(sum(below), bound)
                more = [after - before for before, after in zip(below, above)]
                self.assertEqual(more, [int(other == plain_end(bound, base, power)[1]) for other in leasts])

    def test_a_bound_one_greater_counts_one_more_where_that_number_ends(self):
        for base, power in PAIRS:
            leasts = leasts_of(base, power)
            for bound in great_numbers(base, power)[1:-1]:
                below = counts_below(bound, base, power)
                above = counts_below(bound + 1, base, power)
                more = [after - before for before, after in zip(below, above)]
                least = plain_end(bound, base, power)[1]
                self.assertEqual(more, [int(other == least) for other in leasts])

    def test_a_tuple_of_whole_numbers(self):
        for bound in (0, 1, 100, GREATEST):
            told = counts_below(bound, 10, 3)
            self.assertIs(type(told), tuple)
            self.assertEqual({type(count) for count in told}, {int})


class NthIn(unittest.TestCase):
    def test_known_ones(self):
        for place, least, base, power, number in (
            (0, 0, 10, 2, 0),
            (1, 0, 10, 2, None),
            (0, 1, 10, 2, 1),
            (1, 1, 10, 2, 7),
            (2, 1, 10, 2, 10),
            (19, 1, 10, 2, 100),
            (142, 1, 10, 2, 1000),
            (0, 4, 10, 2, 2),
            (10 ** 12, 1, 2, 5, 10 ** 12 + 1),
            (10 ** 12, 9, 10, 1, 9 * 10 ** 12 + 9),
        ):
            with self.subTest(place=place, least=least, base=base, power=power):
                self.assertEqual(nth_in(place, least, base, power), number)

    def test_the_first_places_by_going_up(self):
        for base, power in PAIRS:
            ends = [least for _, least in plain_ends(BOUND, base, power)]
            for least in leasts_of(base, power):
                numbers = [number for number, other in enumerate(ends) if other == least]
                for place in sorted({0, 1, 2, 3, len(numbers) // 2, len(numbers) - 1}):
                    told = nth_in(place, least, base, power)
                    with self.subTest(place=place, least=least, base=base, power=power):
                        if place < len(numbers):
                            self.assertEqual(told, numbers[place])
                        else:
                            self.assertTrue(told is None or told >= BOUND)

    def test_every_place_of_some_rounds(self):
        for base, power in ((3, 3), (10, 2), (13, 2)):
            ends = [least for _, least in plain_ends(600, base, power)]
            for least in leasts_of(base, power):
                numbers = [number for number, other in enumerate(ends) if other == least]
                told = [nth_in(place, least, base, power) for place in range(len(numbers))]
                self.assertEqual(told, numbers)

    def test_the_round_of_nought_has_but_nought(self):
        for base, power in PAIRS:
            self.assertEqual(nth_in(0, 0, base, power), 0)
            for place in (1, 2, 1000, 10 ** 12):
                self.assertIsNone(nth_in(place, 0, base, power))

    def test_great_places(self):
        for base, power in PAIRS:
            for least in leasts_of(base, power)[1:]:
                place = 10 ** 12
                number = nth_in(place, least, base, power)
                with self.subTest(place=place, least=least, base=base, power=power):
                    self.assertIs(type(number), int)
                    self.assertEqual(end_of(number, base, power)[1], least)
                    self.assertEqual(place_of(number, base, power), place)

    def test_the_next_place_is_the_next_number(self):
        for base, power in ((2, 1), (7, 3), (10, 2), (11, 3)):
            for least in leasts_of(base, power)[1:4]:
                number = nth_in(10 ** 9, least, base, power)
                behind = nth_in(10 ** 9 + 1, least, base, power)
                self.assertLess(number, behind)
                for between in range(number + 1, min(behind, number + 2000)):
                    self.assertNotEqual(plain_end(between, base, power)[1], least)


class NoSuchRound(unittest.TestCase):
    def refused(self, place, least, base, power):
        with self.subTest(place=place, least=least, base=base, power=power):
            with self.assertRaises(NoRound) as caught:
                nth_in(place, least, base, power)
            self.assertIs(type(caught.exception), NoRound)
            self.assertIsInstance(caught.exception, FigureError)
            self.assertIs(type(str(caught.exception)), str)

    def test_a_number_amid_a_round(self):
        for base, power in PAIRS:
            for turn in plain_rounds(base, power):
                for number in turn[1:]:
                    for place in (0, 1, 10 ** 12):
                        self.refused(place, number, base, power)

    def test_all_small_numbers_that_begin_no_round(self):
        for base, power in PAIRS:
            leasts = leasts_of(base, power)
            for number in range(200):
                if number in leasts:
                    nth_in(0, number, base, power)
                else:
                    self.refused(3, number, base, power)

    def test_numbers_beside_a_round(self):
        for base, power in PAIRS:
            leasts = leasts_of(base, power)
            for least in leasts[-3:]:
                for number in (least - 1, least + 1, least * base, least + base ** 9):
                    if number not in leasts:
                        self.refused(0, number, base, power)

    def test_great_numbers(self):
        for base, power in PAIRS:
            for number in (10 ** 12, GREATEST - 1, GREATEST):
                self.refused(0, number, base, power)

    def test_no_other_refusal(self):
        for base, power in PAIRS:
            for number in (0, 1, 2, base, base + 1, GREATEST):
                self.assertIs(type(place_of(number, base, power)), int)


class PlaceOf(unittest.TestCase):
    def test_known_ones(self):
        for number, base, power, place in (
            (0, 10, 2, 0),
            (1, 10, 2, 0),
            (7, 10, 2, 1),
            (2, 10, 2, 0),
            (100, 10, 2, 19),
            (1000, 10, 2, 142),
            (10 ** 7, 10, 2, 1418853),
            (GREATEST, 2, 3, GREATEST - 1),
        ):
            with self.subTest(number=number, base=base, power=power):
                self.assertEqual(place_of(number, base, power), place)

    def test_small_numbers_by_going_up(self):
        for base, power in PAIRS:
            seen = {}
            for number, (_, least) in enumerate(plain_ends(120, base, power)):
                with self.subTest(number=number, base=base, power=power):
                    self.assertEqual(place_of(number, base, power), seen.get(least, 0))
                seen[least] = seen.get(least, 0) + 1

    def test_the_number_at_the_place_is_the_number(self):
        for base, power in PAIRS:
            for number in great_numbers(base, power)[:3]:
                least = plain_end(number, base, power)[1]
                place = place_of(number, base, power)
                self.assertEqual(nth_in(place, least, base, power), number)

    def test_great_numbers_as_they_are_counted(self):
        for base, power in PAIRS:
            leasts = leasts_of(base, power)
            for number in great_numbers(base, power)[3:5] + [GREATEST]:
                at = leasts.index(plain_end(number, base, power)[1])
                self.assertEqual(place_of(number, base, power), counts_below(number, base, power)[at])
