import random
import unittest

from figurerounds.figures.written import step_of
from figurerounds.rounds.down import greatest_kept
from figurerounds.rounds.ends import end_of, end_paper, ends_of, paper_shown, rounds_of
from tests.plain import (
    PAIRS,
    edge_numbers,
    plain_end,
    plain_ends,
    plain_paper,
    plain_rounds,
    plain_step,
)

BOUND = 16 ** 40
OF_TEN = (4, 16, 37, 58, 89, 145, 42, 20)


def some_numbers(base, seed):
    """Numbers of all sizes below 16 ** 40, the same ones each time."""
    chance = random.Random(f"{base} {seed}")
    return [chance.randrange(16 ** chance.randrange(1, 41)) for _ in range(12)] + [0, 1, BOUND - 1]


class Rounds(unittest.TestCase):
    def test_known_ones(self):
        for base, power, rounds in (
            (2, 1, ((0,), (1,))),
            (2, 10, ((0,), (1,))),
            (3, 2, ((0,), (1,), (2, 4), (5,), (8,))),
            (10, 1, tuple((number,) for number in range(10))),
            (10, 2, ((0,), (1,), OF_TEN)),
            (
                10,
                3,
                (
                    (0,), (1,), (55, 250, 133), (136, 244), (153,), (160, 217, 352), (370,),
                    (371,), (407,), (919, 1459),
                ),
            ),
        ):
            with self.subTest(base=base, power=power):
                self.assertEqual(rounds_of(base, power), rounds)

    def test_all_pairs_from_the_numbers_that_do_not_go_down(self):
        for base, power in PAIRS:
            with self.subTest(base=base, power=power):
                self.assertEqual(rounds_of(base, power), plain_rounds(base, power))

    def test_each_number_is_the_step_of_the_one_ahead(self):
        for base, power in PAIRS:
            for turn in rounds_of(base, power):
                for ahead, behind in zip(turn, turn[1:] + turn[:1]):
                    self.assertEqual(behind, plain_step(ahead, base, power))

    def test_each_begins_with_its_least_and_has_no_number_twice(self):
        for base, power in PAIRS:
            turns = rounds_of(base, power)
            for turn in turns:
                self.assertEqual(turn[0], min(turn))
            inside = [number for turn in turns for number in turn]
            self.assertEqual(len(set(inside)), len(inside))
            leasts = [turn[0] for turn in turns]
            self.assertEqual(leasts, sorted(leasts))

    def test_the_round_of_nought_is_the_first(self):
        for base, power in PAIRS:
            self.assertEqual(rounds_of(base, power)[:2], ((0,), (1,)))

    def test_tuples_of_tuples_of_whole_numbers(self):
        for base, power in PAIRS:
            told = rounds_of(base, power)
            self.assertIs(type(told), tuple)
            for turn in told:
                self.assertIs(type(turn), tuple)
                for number in turn:
                    self.assertIs(type(number), int)


class EndOf(unittest.TestCase):
    def test_known_ones(self):
        for number, base, power, end in (
            (0, 10, 2, (0, 0)),
            (1, 10, 2, (0, 1)),
            (4, 10, 2, (0, 4)),
            (145, 10, 2, (0, 4)),
            (2, 10, 2, (1, 4)),
            (7, 10, 2, (5, 1)),
            (10, 10, 2, (1, 1)),
            (100, 10, 2, (1, 1)),
            (3, 10, 2, (5, 4)),
            (153, 10, 3, (0, 153)),
            (351, 10, 3, (1, 153)),
            (7, 2, 1, (3, 1)),
            (BOUND - 1, 2, 1, (3, 1)),
            (99, 10, 1, (2, 9)),
        ):
            with self.subTest(number=number, base=base, power=power):
                self.assertEqual(end_of(number, base, power), end)

    def test_the_numbers_of_a_round_are_not_away(self):
        for base, power in PAIRS:
            for turn in rounds_of(base, power):
                for number in turn:
                    self.assertEqual(end_of(number, base, power), (0, turn[0]))

    def test_small_numbers_one_by_one(self):
        for base, power in PAIRS:
            with self.subTest(base=base, power=power):
                told = [end_of(number, base, power) for number in range(700)]
                self.assertEqual(told, plain_ends(700, base, power))

    def test_around_the_greatest_kept(self):
        for base, power in PAIRS:
            kept = greatest_kept(base, power)
            for number in range(max(0, kept - 3), kept + 4):
                self.assertEqual(end_of(number, base, power), plain_end(number, base, power))

    def test_edges_and_great_numbers(self):
        for base, power in PAIRS:
            for number in edge_numbers(base)[::5] + some_numbers(base, power):
                self.assertEqual(end_of(number, base, power), plain_end(number, base, power))

    def test_a_pair_of_whole_numbers_is_told(self):
        for number in (0, 1, 4, 77, BOUND - 1):
            told = end_of(number, 10, 2)
            self.assertIs(type(told), tuple)
            self.assertEqual([type(part) for part in told], [int, int])


class EndsOf(unittest.TestCase):
    def test_a_row_without_numbers_and_of_one(self):
        for base, power in PAIRS:
            self.assertEqual(ends_of((), base, power), ())
            for number in (0, base, BOUND - 1):
                told = ends_of((number,), base, power)
                self.assertEqual(told, (plain_end(number, base, power),))

    def test_rows_of_sixty(self):
        for base, power in PAIRS:
            for numbers in (
                tuple(range(60)),
                tuple(range(BOUND - 60, BOUND)),
                tuple((some_numbers(base, power) * 4)[::-1]),
            ):
                self.assertEqual(len(numbers), 60)
                told = ends_of(numbers, base, power)
                self.assertEqual(told, tuple(plain_end(number, base, power) for number in numbers))

    def test_pairs_in_a_tuple(self):
        told = ends_of((0, 7, 7, 145), 10, 2)
        self.assertEqual(told, ((0, 0), (5, 1), (5, 1), (0, 4)))
        self.assertIs(type(told), tuple)
        for pair in told:
            self.assertIs(type(pair), tuple)
            self.assertEqual([type(part) for part in pair], [int, int])


class Papers(unittest.TestCase):
    def test_known_ones(self):
        for number, base, power, paper in (
            (0, 10, 2, (0, 0)),
            (1, 10, 2, (1, 1)),
            (10, 10, 2, (10, 1, 1)),
            (7, 10, 2, (7, 49, 97, 130, 10, 1, 1)),
            (4, 10, 2, OF_TEN + (4,)),
            (2, 10, 2, (2,) + OF_TEN + (4,)),
            (16, 10, 2, OF_TEN[1:] + OF_TEN + (4,)),
            (20, 10, 2, (20,) + OF_TEN + (4,)),
            (133, 10, 3, (133, 55, 250, 133, 55)),
            (1459, 10, 3, (1459, 919, 1459, 919)),
            (3, 10, 2, (3, 9, 81, 65, 61) + OF_TEN[2:] + OF_TEN + (4,)),
        ):
            with self.subTest(number=number, base=base, power=power):
                self.assertEqual(end_paper(number, base, power), paper)

    def test_all_pairs_against_walking(self):
        for base, power in PAIRS:
            inside = [number for turn in rounds_of(base, power) for number in turn]
            numbers = list(range(120)) + inside + some_numbers(base, power)
            for number in numbers:
                self.assertEqual(end_paper(number, base, power), plain_paper(number, base, power))

    def test_the_least_stands_in_it_twice_the_second_time_as_the_last(self):
        for base, power in PAIRS:
            for number in list(range(60)) + some_numbers(base, power):
                paper = end_paper(number, base, power)
                least = end_of(number, base, power)[1]
                self.assertEqual(paper[0], number)
                self.assertEqual(paper[-1], least)
                self.assertEqual(paper.count(least), 2)

    def test_a_tuple_of_whole_numbers(self):
        for number in (0, 4, BOUND - 1):
            told = end_paper(number, 10, 2)
            self.assertIs(type(told), tuple)
            self.assertEqual({type(part) for part in told}, {int})


def spoiled(paper, step_behind):
    """Papers that differ from this one, each by one change."""
    for at in range(len(paper)):
        for wrong in (paper[at] + 1, paper[at] - 1, -1, -paper[at] - 1, 16 ** 40, 10 ** 4000):
            yield paper[:at] + (wrong,) + paper[at + 1:]
            yield paper[:at] + (wrong,) + paper[at:]
        yield paper[:at] + paper[at + 1:]
        yield paper[:at] + paper[at:at + 1] + paper[at:]
        yield paper[:at]
        for other in range(at):
            if paper[at] != paper[other]:
                turned = list(paper)
                turned[at], turned[other] = turned[other], turned[at]
                yield tuple(turned)
    yield paper + (step_behind,)
    yield paper + (0,)
    yield paper + paper
    yield paper[::-1] + paper


class PapersShown(unittest.TestCase):
    NUMBERS = (0, 1, 2, 3, 4, 7, 16, 19, 37, 145, 10 ** 9 + 7, BOUND - 1)

    def test_the_right_paper(self):
        for base, power in PAIRS:
            for number in self.NUMBERS:
                paper = plain_paper(number, base, power)
                self.assertIs(paper_shown(number, base, power, paper), True)

    def test_one_change(self):
        for base, power in ((2, 1), (3, 9), (7, 3), (10, 2), (10, 3), (11, 3), (16, 2)):
            for number in self.NUMBERS:
                paper = plain_paper(number, base, power)
                behind = plain_step(paper[-1], base, power)
                for wrong in spoiled(paper, behind):
                    with self.subTest(number=number, base=base, power=power, wrong=wrong[:20]):
                        self.assertIs(paper_shown(number, base, power, wrong), False)

    def test_the_round_gone_round_once_more(self):
        for base, power in PAIRS:
            for number in self.NUMBERS:
                paper = plain_paper(number, base, power)
                first = paper.index(paper[-1])
                for times in (1, 2, 500):
                    longer = paper + paper[first + 1:] * times
                    self.assertIs(paper_shown(number, base, power, longer), False)

    def test_the_round_not_gone_round(self):
        for base, power in PAIRS:
            for number in self.NUMBERS:
                paper = plain_paper(number, base, power)
                short = paper[: paper.index(paper[-1]) + 1]
                self.assertIs(paper_shown(number, base, power, short), False)

    def test_it_ends_with_the_first_number_that_stands_in_it_twice(self):
        # Of a number amid its round that one stands twice before the least does.
        self.assertIs(paper_shown(16, 10, 2, OF_TEN[1:] + OF_TEN[:2]), False)
        self.assertIs(paper_shown(16, 10, 2, OF_TEN[1:] + (4,)), False)

    def test_an_empty_one(self):
        for base, power in PAIRS:
            for number in self.NUMBERS:
                self.assertIs(paper_shown(number, base, power, ()), False)

    def test_the_paper_of_another_number(self):
        for base, power in PAIRS:
            papers = {number: plain_paper(number, base, power) for number in self.NUMBERS}
            for number in self.NUMBERS:
                for other, paper in papers.items():
                    self.assertIs(paper_shown(number, base, power, paper), number == other)

    def test_the_paper_by_another_pair(self):
        self.assertIs(paper_shown(153, 10, 2, plain_paper(153, 10, 3)), False)
        self.assertIs(paper_shown(8, 9, 2, plain_paper(8, 10, 2)), False)

    def test_very_long_ones(self):
        for number in (0, 1, 4, 7, BOUND - 1):
            paper = plain_paper(number, 10, 2)
            for wrong in (
                (number,) * 200000,
                paper * 20000,
                paper + (0,) * 200000,
                tuple(range(200000)),
                (10 ** 4000,) * 200000,
            ):
                self.assertIs(paper_shown(number, 10, 2, wrong), False)

    def test_numbers_too_great_to_take_figure_by_figure(self):
        vast = 1 << 20000000
        for wrong in ((vast,), (7, vast), (7, 49, 97, 130, 10, 1, vast), (-vast, 1, 1)):
            self.assertIs(paper_shown(7, 10, 2, wrong), False)

    def test_what_is_handed_in_stays_as_it_is(self):
        paper = plain_paper(16, 10, 2)
        before = tuple(paper)
        numbers = (7, 16, 16)
        paper_shown(16, 10, 2, paper)
        ends_of(numbers, 10, 2)
        self.assertEqual(paper, before)
        self.assertEqual(numbers, (7, 16, 16))


class StepsAway(unittest.TestCase):
    def test_a_step_is_one_nearer_outside_of_rounds(self):
        for base, power in PAIRS:
            for number in some_numbers(base, power):
                away, least = end_of(number, base, power)
                nearer = end_of(step_of(number, base, power), base, power)
                self.assertEqual(nearer, (max(0, away - 1), least))
