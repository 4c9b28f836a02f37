"""What is asked many times over is answered soon, and rightly.

The seconds that each test lets are many times what the answers take, and far less
than they would take if each of them were worked out anew.
"""

import random
import unittest

from figurerounds.counts.below import counts_below, nth_in, place_of
from figurerounds.counts.runs import first_run, longest_run
from figurerounds.counts.shares import greatest_share, shares_of
from figurerounds.figures.least import how_many_with, least_away, least_with
from figurerounds.rounds.ends import rounds_of
from figurerounds.whole import Desk
from tests.clock import answers_in_time
from tests.plain import PAIRS, plain_end, plain_ends, plain_rounds, plain_step, steps_below

GREAT_PAIRS = ((11, 3), (10, 3), (2, 10), (16, 2), (3, 9), (4, 6))
GREATEST = 10 ** 24


def leasts_below(bound, base, power):
    return [least for _, least in plain_ends(bound, base, power)]


class HowManyWith(unittest.TestCase):
    def test_many_sums_of_twelve_figures(self):
        for base, power in GREAT_PAIRS:
            most = 12 * (base - 1) ** power
            asks = [(total, base, power, 12) for total in range(most + 1)]
            with self.subTest(base=base, power=power):
                told = answers_in_time(self, 3, how_many_with, asks)
                self.assertEqual(sum(told), base ** 12 - base ** 11)
                weighed = sum(total * count for total, count in enumerate(told))
                worths = sum(figure ** power for figure in range(base))
                # Each figure stands equally often at each place but the first, which is no nought.
                self.assertEqual(weighed, worths * base ** 11 + 11 * worths * (base - 1) * base ** 10)

    def test_the_same_sum_and_all_pairs_by_turns(self):
        asks = [(2953, 11, 3, 12)] * 3000
        asks += [(total, *pair, many) for total in (5, 640, 2953) for many in range(1, 13) for pair in PAIRS] * 3
        told = answers_in_time(self, 5, how_many_with, asks)
        self.assertEqual(set(told[:3000]), {told[0]})
        third = (len(asks) - 3000) // 3
        self.assertEqual(told[3000:], told[3000:3000 + third] * 3)

    def test_few_figures_by_going_through(self):
        for base, power in GREAT_PAIRS:
            steps = steps_below(max(base ** 2, 3000), base, power)
            for many in range(1, 13):
                if base ** many > len(steps):
                    break
                through = steps[0 if many == 1 else base ** (many - 1):base ** many]
                asks = [(total, base, power, many) for total in range(max(through) + 20)]
                told = answers_in_time(self, 3, how_many_with, asks)
                self.assertEqual(told, [through.count(total) for total, *_ in asks])


class LeastAway(unittest.TestCase):
    def test_all_pairs_many_times_over(self):
        asks = [(steps, *pair) for steps in range(13) for pair in PAIRS]
        told = answers_in_time(self, 10, least_away, asks * 20)
        self.assertEqual(told, told[:len(asks)] * 20)

    def test_each_is_the_least(self):
        for base, power in PAIRS:
            through = [away for away, _ in plain_ends(2000, base, power)]
            asks = [(steps, base, power) for steps in range(13)]
            for (steps, *_), told in zip(asks, answers_in_time(self, 3, least_away, asks)):
                with self.subTest(steps=steps, base=base, power=power):
                    if steps in through:
                        self.assertEqual(told, through.index(steps))
                    elif told is not None:
                        self.assertGreaterEqual(told, 2000)
                        self.assertEqual(told, self.least_by_its_step(steps, base, power))
                    else:
                        self.assertIsNone(self.least_by_its_step(steps, base, power))

    def least_by_its_step(self, steps, base, power):
        """The least of the least numbers with a step that is one step nearer to its round."""
        ends = plain_ends_of_sums(40 * (base - 1) ** power, base, power)
        nearer = [total for total, away in enumerate(ends) if away == steps - 1]
        leasts = [least_with(total, base, power) for total in nearer]
        return min([least for least in leasts if least is not None], default=None)


def plain_ends_of_sums(most, base, power):
    """How far away the numbers up to the most are: small ones walked, the others by their steps."""
    steps = steps_below(most + 1, base, power)
    aways = [away for away, _ in plain_ends(min(most + 1, 6000), base, power)]
    for step in steps[len(aways):]:
        # From 6000 on no number of any pair is in a round.
        aways.append(aways[step] + 1)
    return aways


class CountsBelow(unittest.TestCase):
    def test_small_bounds(self):
        for base, power in GREAT_PAIRS:
            leasts = leasts_below(400, base, power)
            rounds = [turn[0] for turn in plain_rounds(base, power)]
            asks = [(bound, base, power) for bound in range(401)]
            through = [tuple(leasts[:bound].count(least) for least in rounds) for bound in range(401)]
            told = answers_in_time(self, 4, counts_below, asks * 5)
            self.assertEqual(told, through * 5)

    def test_great_bounds(self):
        for base, power in GREAT_PAIRS:
            rounds = [turn[0] for turn in plain_rounds(base, power)]
            asks = [(bound, base, power) for bound in range(GREATEST - 1000, GREATEST + 1)]
            told = answers_in_time(self, 4, counts_below, asks)
            for (bound, *_), below, above in list(zip(asks, told, told[1:]))[::10]:
                least = plain_end(bound, base, power)[1]
                more = [after - before for before, after in zip(below, above)]
                self.assertEqual(more, [int(least == other) for other in rounds])
            self.assertEqual([sum(counts) for counts in told], [bound for bound, *_ in asks])

    def test_all_pairs_by_turns(self):
        asks = [(bound, *pair) for bound in (7, 5000, 10 ** 12, GREATEST - 3) for pair in PAIRS] * 10
        told = answers_in_time(self, 10, counts_below, asks)
        self.assertEqual(told, told[:len(asks) // 10] * 10)


class NthIn(unittest.TestCase):
    def test_small_places(self):
        for base, power in GREAT_PAIRS:
            leasts = leasts_below(1500, base, power)
            for turn in plain_rounds(base, power)[1:]:
                numbers = [number for number, least in enumerate(leasts) if least == turn[0]]
                asks = [(place, turn[0], base, power) for place in range(len(numbers))]
                self.assertEqual(answers_in_time(self, 3, nth_in, asks), numbers)

    def test_great_places(self):
        for base, power in GREAT_PAIRS:
            rounds = [turn[0] for turn in plain_rounds(base, power)][1:]
            asks = [
                (10 ** 12 - before, least, base, power)
                for least in (rounds[0], rounds[-1]) for before in range(400, -1, -1)
            ]
            told = answers_in_time(self, 4, nth_in, asks)
            for (place, least, *_), number in list(zip(asks, told))[::20]:
                self.assertEqual(plain_end(number, base, power)[1], least)
                self.assertEqual(place_of(number, base, power), place)
            for ahead, behind in ((told[:401], told[1:401]), (told[401:], told[402:])):
                for lesser, greater in zip(ahead, behind):
                    self.assertLess(lesser, greater)


class PlaceOf(unittest.TestCase):
    def test_small_numbers(self):
        for base, power in GREAT_PAIRS:
            leasts = leasts_below(500, base, power)
            through = [leasts[:number].count(least) for number, least in enumerate(leasts)]
            asks = [(number, base, power) for number in range(500)]
            self.assertEqual(answers_in_time(self, 4, place_of, asks * 4), through * 4)

    def test_great_numbers(self):
        for base, power in GREAT_PAIRS:
            rounds = [turn[0] for turn in plain_rounds(base, power)]
            numbers = [GREATEST - 7 * before for before in range(1000)] + [450959399977941939860187]
            told = answers_in_time(self, 4, place_of, [(number, base, power) for number in numbers])
            for number, place in list(zip(numbers, told))[::25] + [(numbers[-1], told[-1])]:
                at = rounds.index(plain_end(number, base, power)[1])
                self.assertEqual(place, counts_below(number, base, power)[at])


class TheOthers(unittest.TestCase):
    def test_least_with(self):
        chance = random.Random("least_with")
        asks = [(chance.randrange(40 * (base - 1) ** power), base, power) for base, power in PAIRS for _ in range(50)]
        told = answers_in_time(self, 4, least_with, asks)
        for (total, base, power), number in zip(asks, told):
            if number is not None:
                self.assertEqual(plain_step(number, base, power), total)

    def test_shares_and_runs(self):
        asks = [(12, *pair) for pair in PAIRS] * 20
        told = answers_in_time(self, 8, shares_of, asks)
        self.assertEqual(told, told[:len(PAIRS)] * 20)
        asks = [(12, 1, *pair) for pair in PAIRS] * 20
        told = answers_in_time(self, 8, greatest_share, asks)
        self.assertEqual(told, told[:len(PAIRS)] * 20)
        asks = [(10 ** 5 - before, 1, *pair) for before in range(20) for pair in PAIRS]
        told = answers_in_time(self, 8, longest_run, asks)
        self.assertEqual(told[:2], [(99999, 1)] * 2)
        asks = [(many, bound, 1, *pair) for many in range(1, 13) for bound in (99, 10 ** 5) for pair in PAIRS]
        told = answers_in_time(self, 8, first_run, asks)
        self.assertEqual(told[:2], [1, 1])

    def test_rounds(self):
        told = answers_in_time(self, 4, rounds_of, PAIRS * 100)
        self.assertEqual(told, told[:len(PAIRS)] * 100)

    def test_a_desk(self):
        desk = Desk()
        desk.ask("pair 11 3")
        lines = ["count 23a5a4a86a1", "place 1 999999999999", "least 39999", "rounds", "of " + "a" * 40]
        told = answers_in_time(self, 6, desk.ask, [(line,) for line in lines * 200])
        self.assertEqual(told, told[:len(lines)] * 200)


if __name__ == "__main__":
    unittest.main()
