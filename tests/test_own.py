import itertools
import unittest

from figurerounds.figures.own import own_numbers
from tests.plain import BASES, spelled, steps_below


def own_by_going_through(base, many):
    """All own numbers of so many figures: each number of so many figures is looked at."""
    steps = steps_below(base ** many, base, many)
    first = 0 if many == 1 else base ** (many - 1)
    return tuple(number for number in range(first, base ** many) if steps[number] == number)


def own_by_sorted_figures(base, many):
    """The same by another way: each handful of figures has one sum, and that sum has the figures or not."""
    found = []
    for figures in itertools.combinations_with_replacement(range(base), many):
        number = sum(figure ** many for figure in figures)
        if sorted(int(sign, 16) for sign in spelled(number, base)) == list(figures):
            found.append(number)
    return tuple(sorted(found))


class OwnNumbers(unittest.TestCase):
    def test_known_ones_of_base_ten(self):
        for many, numbers in (
            (1, tuple(range(10))),
            (2, ()),
            (3, (153, 370, 371, 407)),
            (4, (1634, 8208, 9474)),
            (5, (54748, 92727, 93084)),
            (6, (548834,)),
        ):
            with self.subTest(many=many):
                self.assertEqual(own_numbers(10, many), numbers)

    def test_known_ones_of_other_bases(self):
        self.assertEqual(own_numbers(3, 2), (5, 8))
        self.assertEqual(own_numbers(3, 3), (17,))
        of_sixteen = (
            "156 173 208 248 285 4a5 5b0 5b1 60b 64b 8c0 8c1 99a aa9 ac3 ca8 e69 ea0 ea1"
        )
        self.assertEqual(own_numbers(16, 3), tuple(int(text, 16) for text in of_sixteen.split()))

    def test_one_figure(self):
        for base in BASES:
            self.assertEqual(own_numbers(base, 1), tuple(range(base)))

    def test_base_two(self):
        self.assertEqual(own_numbers(2, 1), (0, 1))
        for many in range(2, 7):
            self.assertEqual(own_numbers(2, many), ())

    def test_all_bases_and_lengths_by_going_through(self):
        for base in BASES:
            for many in range(1, 7):
                if base ** many <= 300000:
                    with self.subTest(base=base, many=many):
                        self.assertEqual(own_numbers(base, many), own_by_going_through(base, many))

    def test_all_bases_and_lengths_by_their_sorted_figures(self):
        for base in BASES:
            for many in range(1, 7):
                with self.subTest(base=base, many=many):
                    self.assertEqual(own_numbers(base, many), own_by_sorted_figures(base, many))

    def test_they_are_their_own_step_and_have_so_many_figures(self):
        for base in BASES:
            for many in range(1, 7):
                for number in own_numbers(base, many):
                    text = spelled(number, base)
                    self.assertEqual(len(text), many)
                    self.assertEqual(sum(int(sign, 16) ** many for sign in text), number)

    def test_rising_and_none_twice(self):
        for base in BASES:
            for many in range(1, 7):
                told = own_numbers(base, many)
                self.assertEqual(list(told), sorted(set(told)))

    def test_a_tuple_of_whole_numbers(self):
        for base, many in ((10, 1), (10, 2), (10, 3), (16, 6)):
            told = own_numbers(base, many)
            self.assertIs(type(told), tuple)
            for number in told:
                self.assertIs(type(number), int)
