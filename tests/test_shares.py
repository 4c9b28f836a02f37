import math
import unittest
from fractions import Fraction

from figurerounds.counts.below import counts_below
from figurerounds.counts.shares import greatest_share, shares_of
from figurerounds.errors import FigureError, NoRound
from tests.plain import PAIRS, plain_ends, plain_rounds
from tests.test_below import counts_by_handfuls

BOUND = 3000


def leasts_of(base, power):
    return [turn[0] for turn in plain_rounds(base, power)]


def first_number(many, base):
    return 0 if many == 1 else base ** (many - 1)


class SharesOf(unittest.TestCase):
    def test_known_ones(self):
        for many, base, power, shares in (
            (1, 10, 2, ((1, 10), (1, 5), (7, 10))),
            (2, 10, 2, ((0, 1), (17, 90), (73, 90))),
            (1, 2, 1, ((1, 2), (1, 2))),
            (2, 2, 1, ((0, 1), (1, 1))),
            (12, 2, 10, ((0, 1), (1, 1))),
            (1, 10, 1, ((1, 10),) * 10),
            (2, 10, 1, ((0, 1),) + ((1, 9),) * 9),
            (12, 10, 1, ((0, 1),) + ((1, 9),) * 9),
            (1, 3, 2, ((1, 3), (1, 3), (1, 3), (0, 1), (0, 1))),
        ):
            with self.subTest(many=many, base=base, power=power):
                self.assertEqual(shares_of(many, base, power), shares)

    def test_by_going_through_all_numbers_of_so_many_figures(self):
        for base, power in PAIRS:
            ends = [least for _, least in plain_ends(BOUND, base, power)]
            for many in range(1, 13):
                if base ** many > BOUND:
                    break
                through = ends[first_number(many, base):base ** many]
                shares = [Fraction(through.count(least), len(through)) for least in leasts_of(base, power)]
                with self.subTest(many=many, base=base, power=power):
                    told = shares_of(many, base, power)
                    self.assertEqual(told, tuple((share.numerator, share.denominator) for share in shares))

    def test_nought_is_among_the_numbers_of_one_figure_alone(self):
        for base, power in PAIRS:
            self.assertEqual(shares_of(1, base, power)[0], (1, base))
            for many in range(2, 13):
                self.assertEqual(shares_of(many, base, power)[0], (0, 1))

    def test_least_numbers_in_the_order_of_the_rounds(self):
        for base, power in PAIRS:
            for many in range(1, 13):
                told = shares_of(many, base, power)
                self.assertIs(type(told), tuple)
                self.assertEqual(len(told), len(leasts_of(base, power)))
                for share in told:
                    self.assertIs(type(share), tuple)
                    self.assertEqual([type(part) for part in share], [int, int])
                    above, below = share
                    self.assertGreaterEqual(above, 0)
                    self.assertGreaterEqual(below, 1)
                    self.assertEqual(math.gcd(above, below), 1)

    def test_all_shares_together_are_one(self):
        for base, power in PAIRS:
            for many in range(1, 13):
                self.assertEqual(sum(Fraction(*share) for share in shares_of(many, base, power)), 1)

    def test_many_figures_as_they_are_counted_below_bounds(self):
        for base, power in PAIRS:
            for many in range(1, 13):
                before = counts_below(first_number(many, base), base, power)
                behind = counts_below(base ** many, base, power)
                whole = base ** many - first_number(many, base)
                shares = [Fraction(more - less, whole) for less, more in zip(before, behind)]
                told = [Fraction(*share) for share in shares_of(many, base, power)]
                self.assertEqual(told, shares)

    def test_many_figures_by_handfuls(self):
        for base, power, many in ((2, 4, 12), (3, 9, 12), (4, 6, 12), (5, 4, 9), (6, 2, 8), (10, 2, 6), (16, 2, 5)):
            less = counts_by_handfuls(many - 1, base, power)
            more = counts_by_handfuls(many, base, power)
            whole = base ** many - base ** (many - 1)
            shares = [Fraction(behind - before, whole) for before, behind in zip(less, more)]
            self.assertEqual([Fraction(*share) for share in shares_of(many, base, power)], shares)


class GreatestShare(unittest.TestCase):
    def test_known_ones(self):
        for most, least, base, power, many in (
            (1, 0, 10, 2, 1),
            (12, 0, 10, 2, 1),
            (1, 1, 2, 1, 1),
            (2, 1, 2, 1, 2),
            (12, 1, 2, 1, 2),
            (12, 1, 10, 1, 2),
            (12, 9, 10, 1, 2),
            (1, 1, 10, 2, 1),
            (2, 1, 10, 2, 1),
            (2, 4, 10, 2, 2),
        ):
            with self.subTest(most=most, least=least, base=base, power=power):
                self.assertEqual(greatest_share(most, least, base, power), many)

    def test_against_the_shares_the_least_of_several(self):
        for base, power in PAIRS:
            rows = [shares_of(many, base, power) for many in range(1, 13)]
            for at, least in enumerate(leasts_of(base, power)):
                shares = [Fraction(*row[at]) for row in rows]
                for most in range(1, 13):
                    with self.subTest(most=most, least=least, base=base, power=power):
                        told = greatest_share(most, least, base, power)
                        self.assertIs(type(told), int)
                        self.assertEqual(told, 1 + shares.index(max(shares[:most])))

    def test_a_round_that_no_number_of_few_figures_ends_in(self):
        # (5,) and (8,) have no number of one figure by (3, 2): all shares are 0, and 1 is the least.
        self.assertEqual(greatest_share(1, 5, 3, 2), 1)
        self.assertEqual(greatest_share(1, 8, 3, 2), 1)

    def test_no_such_round(self):
        for base, power in PAIRS:
            leasts = leasts_of(base, power)
            amid = [number for turn in plain_rounds(base, power) for number in turn[1:]]
            beside = [number for number in range(60) if number not in leasts]
            for least in amid[:5] + beside + [10 ** 12, 16 ** 40 - 1]:
                for most in (1, 12):
                    with self.assertRaises(NoRound) as caught:
                        greatest_share(most, least, base, power)
                    self.assertIs(type(caught.exception), NoRound)
                    self.assertIsInstance(caught.exception, FigureError)
