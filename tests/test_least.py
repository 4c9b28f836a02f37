import unittest

from figurerounds.figures.least import how_many_with, least_away, least_with
from tests.plain import PAIRS, plain_end, plain_ends, plain_length, plain_step, spelled, steps_below

BOUND = 3000


def least_by_fewest_figures(total, base, power, most=40):
    """The least number with this step, by the fewest figures that each lesser sum needs."""
    worths = [figure ** power for figure in range(base)]
    fewest = [0]
    for lesser in range(1, total + 1):
        fewest.append(1 + min(fewest[lesser - worth] for worth in worths[1:] if worth <= lesser))
    if fewest[total] > most:
        return None
    number = 0
    while total > 0:
        figure = min(
            figure
            for figure in range(1, base)
            if worths[figure] <= total and fewest[total - worths[figure]] == fewest[total] - 1
        )
        number = number * base + figure
        total -= worths[figure]
    return number


class LeastWith(unittest.TestCase):
    def test_known_ones(self):
        for total, base, power, number in (
            (0, 10, 2, 0),
            (1, 10, 2, 1),
            (2, 10, 2, 11),
            (5, 10, 2, 12),
            (50, 10, 2, 17),
            (130, 10, 2, 79),
            (153, 10, 3, 135),
            (19, 10, 1, 199),
            (9, 10, 1, 9),
            (10, 10, 1, 19),
            (360, 10, 1, 10 ** 40 - 1),
            (361, 10, 1, None),
            (4, 2, 3, 15),
            (3, 3, 9, 13),
            (511, 3, 9, None),
            (512, 3, 9, 2),
            (40000, 11, 3, 11 ** 40 - 1),
            (40001, 11, 3, None),
            (99999, 11, 3, None),
        ):
            with self.subTest(total=total, base=base, power=power):
                self.assertEqual(least_with(total, base, power), number)

    def test_the_sum_nought(self):
        for base, power in PAIRS:
            self.assertEqual(least_with(0, base, power), 0)

    def test_base_two(self):
        for power in range(1, 11):
            for total in range(0, 41):
                self.assertEqual(least_with(total, 2, power), 2 ** total - 1)
            for total in (41, 42, 80, 99999):
                self.assertIsNone(least_with(total, 2, power))

    def test_small_sums_by_going_up(self):
        for base, power in PAIRS:
            first = {}
            for number, step in enumerate(steps_below(BOUND, base, power)):
                first.setdefault(step, number)
            for total in range(0, 60):
                told = least_with(total, base, power)
                if total in first:
                    self.assertEqual(told, first[total])
                else:
                    self.assertTrue(told is None or told >= BOUND)

    def test_all_sums_that_small_numbers_have(self):
        for base, power in ((3, 9), (4, 3), (9, 3), (10, 2), (10, 3), (16, 2)):
            first = {}
            for number, step in enumerate(steps_below(20000, base, power)):
                first.setdefault(step, number)
            for total, number in first.items():
                self.assertEqual(least_with(total, base, power), number)

    def test_greater_sums_by_the_fewest_figures(self):
        for base, power in PAIRS:
            most = 40 * (base - 1) ** power
            totals = {77, 500, 1999, most // 2, most - 1, most, most + 1}
            for total in totals:
                if total <= 12000:
                    with self.subTest(total=total, base=base, power=power):
                        self.assertEqual(
                            least_with(total, base, power), least_by_fewest_figures(total, base, power)
                        )

    def test_around_forty_figures(self):
        # With the worths 0, 1 and 512 each sum needs its quotient and its rest of figures.
        for twos in range(0, 41):
            for ones in range(0, 41):
                told = least_with(512 * twos + ones, 3, 9)
                if twos + ones <= 40:
                    self.assertEqual(told, int("0" + "1" * ones + "2" * twos, 3))
                else:
                    self.assertIsNone(told)

    def test_the_greatest_sum_of_forty_figures_and_one_more(self):
        for base, power in PAIRS:
            most = 40 * (base - 1) ** power
            self.assertEqual(least_with(most, base, power), base ** 40 - 1)
            for total in (most + 1, most + 2, 2 * most, 99999):
                self.assertIsNone(least_with(total, base, power))

    def test_its_step_is_the_sum_and_its_figures_do_not_fall(self):
        for base, power in PAIRS:
            for total in (3, 64, 999, 4242, 9999, 31415):
                told = least_with(total, base, power)
                if told is not None:
                    self.assertIs(type(told), int)
                    self.assertEqual(plain_step(told, base, power), total)
                    text = spelled(told, base)
                    self.assertLessEqual(len(text), 40)
                    self.assertEqual(text, "".join(sorted(text)))


class HowManyWith(unittest.TestCase):
    def test_known_ones(self):
        for total, base, power, many, count in (
            (0, 10, 2, 1, 1),
            (0, 10, 2, 2, 0),
            (1, 10, 2, 1, 1),
            (1, 10, 2, 2, 1),
            (1, 10, 2, 12, 1),
            (2, 10, 2, 2, 1),
            (2, 10, 2, 12, 11),
            (25, 10, 2, 2, 3),
            (1, 2, 7, 1, 1),
            (6, 2, 7, 12, 462),
            (108, 10, 1, 12, 1),
            (107, 10, 1, 12, 12),
            (109, 10, 1, 12, 0),
            (12000, 11, 3, 12, 1),
            (12001, 11, 3, 12, 0),
            (99999, 11, 3, 12, 0),
        ):
            with self.subTest(total=total, base=base, power=power, many=many):
                self.assertEqual(how_many_with(total, base, power, many), count)

    def test_by_going_through_all_numbers_of_so_many_figures(self):
        for base, power in PAIRS:
            steps = steps_below(2000, base, power)
            for many in range(1, 13):
                if base ** many > len(steps):
                    break
                counts = {}
                for number in range(0 if many == 1 else base ** (many - 1), base ** many):
                    counts[steps[number]] = counts.get(steps[number], 0) + 1
                totals = sorted(counts)
                beside = [total + 1 for total in totals] + list(range(8))
                for total in totals + beside:
                    told = how_many_with(total, base, power, many)
                    self.assertEqual(told, counts.get(total, 0))
                    self.assertIs(type(told), int)

    def test_nought_is_among_the_numbers_of_one_figure_alone(self):
        for base, power in PAIRS:
            self.assertEqual(how_many_with(0, base, power, 1), 1)
            for many in range(2, 13):
                self.assertEqual(how_many_with(0, base, power, many), 0)

    def test_the_greatest_sum_one_more_and_sums_far_above(self):
        for base, power in PAIRS:
            for many in range(1, 13):
                most = many * (base - 1) ** power
                self.assertEqual(how_many_with(most, base, power, many), 1)
                for total in (most + 1, most + 2, 2 * most + 1, 99999):
                    self.assertEqual(how_many_with(total, base, power, many), 0)

    def test_all_sums_together_are_all_numbers(self):
        for base, power, many in ((2, 3, 12), (3, 4, 12), (4, 2, 9), (10, 1, 12), (10, 2, 5), (16, 1, 12)):
            told = [
                how_many_with(total, base, power, many)
                for total in range(many * (base - 1) ** power + 1)
            ]
            self.assertEqual(sum(told), base ** many - base ** (many - 1))


class LeastAway(unittest.TestCase):
    @classmethod
    def setUpClass(cls):
        cls.told = {
            (base, power): [least_away(steps, base, power) for steps in range(13)]
            for base, power in PAIRS
        }

    def test_known_ones(self):
        for steps, base, power, number in (
            (0, 10, 2, 0),
            (1, 10, 2, 2),
            (5, 10, 2, 3),
            (0, 2, 1, 0),
            (1, 2, 1, 2),
            (2, 2, 1, 3),
            (3, 2, 1, 7),
            (4, 2, 1, 127),
            (5, 2, 1, None),
            (12, 2, 1, None),
            (1, 10, 1, 10),
            (2, 10, 1, 19),
            (3, 10, 1, 199),
            (4, 10, 1, 2 * 10 ** 22 - 1),
            (5, 10, 1, None),
        ):
            with self.subTest(steps=steps, base=base, power=power):
                self.assertEqual(least_away(steps, base, power), number)

    def test_a_number_of_more_than_forty_figures_is_none(self):
        # 127 is the first that needs 4 steps, so 127 ones make the first that needs 5.
        self.assertEqual(plain_end(2 ** 127 - 1, 2, 1), (5, 1))
        for power in range(1, 11):
            self.assertEqual(least_away(4, 2, power), 127)
            self.assertIsNone(least_away(5, 2, power))

    def test_no_steps(self):
        for base, power in PAIRS:
            self.assertEqual(least_away(0, base, power), 0)

    def test_by_going_up(self):
        for base, power in PAIRS:
            ends = plain_ends(BOUND, base, power)
            for steps in range(13):
                first = [number for number, end in enumerate(ends) if end[0] == steps][:1]
                told = self.told[base, power][steps]
                with self.subTest(steps=steps, base=base, power=power):
                    if first:
                        self.assertEqual(told, first[0])
                    else:
                        self.assertTrue(told is None or told >= BOUND)

    def test_it_needs_so_many_steps(self):
        for (base, power), row in self.told.items():
            for steps, told in enumerate(row):
                if told is not None:
                    self.assertIs(type(told), int)
                    self.assertEqual(plain_end(told, base, power)[0], steps)
                    self.assertLessEqual(len(spelled(told, base)), 40)

    def test_great_ones_are_the_least_of_all_sums_a_step_nearer(self):
        for base, power in PAIRS:
            most = 40 * (base - 1) ** power
            if most > 3000:
                continue
            bound = max(most + 1, base ** plain_length(base, power))
            ends = plain_ends(bound, base, power)
            leasts = [least_with(total, base, power) for total in range(most + 1)]
            for steps in range(2, 13):
                nearer = [
                    leasts[total]
                    for total in range(most + 1)
                    if ends[total][0] == steps - 1 and leasts[total] is not None
                ]
                with self.subTest(steps=steps, base=base, power=power):
                    self.assertEqual(self.told[base, power][steps], min(nearer, default=None))

    def test_none_is_told_of_more_steps_too(self):
        for row in self.told.values():
            for fewer, more in zip(row, row[1:]):
                if fewer is None:
                    self.assertIsNone(more)
