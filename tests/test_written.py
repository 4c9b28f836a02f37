import unittest

from figurerounds.errors import FigureError, NoNumber
from figurerounds.figures.written import (
    figures_of,
    number_shown,
    read_number,
    row_from,
    step_of,
)
from tests.plain import BASES, DIGITS, PAIRS, edge_numbers, plain_step, spelled


class Shown(unittest.TestCase):
    def test_known_ones(self):
        for number, base, text in (
            (0, 2, "0"),
            (0, 16, "0"),
            (1, 2, "1"),
            (2, 2, "10"),
            (10, 10, "10"),
            (255, 16, "ff"),
            (256, 16, "100"),
            (2026, 10, "2026"),
            (11, 12, "b"),
            (12, 12, "10"),
            (48879, 16, "beef"),
        ):
            with self.subTest(number=number, base=base):
                self.assertEqual(number_shown(number, base), text)

    def test_each_single_figure(self):
        for base in BASES:
            for figure in range(base):
                self.assertEqual(number_shown(figure, base), DIGITS[figure])

    def test_the_base_and_its_powers(self):
        for base in BASES:
            for many in range(1, 30):
                self.assertEqual(number_shown(base ** many, base), "1" + "0" * many)
                self.assertEqual(number_shown(base ** many - 1, base), DIGITS[base - 1] * many)

    def test_edges_of_all_bases(self):
        for base in BASES:
            for number in edge_numbers(base):
                self.assertEqual(number_shown(number, base), spelled(number, base))

    def test_as_python_writes(self):
        for number in (16 ** 40 - 1, 16 ** 39, 10 ** 48, 123456789012345678901234567890):
            self.assertEqual(number_shown(number, 2), f"{number:b}")
            self.assertEqual(number_shown(number, 8), f"{number:o}")
            self.assertEqual(number_shown(number, 10), f"{number}")
            self.assertEqual(number_shown(number, 16), f"{number:x}")


class Read(unittest.TestCase):
    def test_as_python_reads(self):
        for base in BASES:
            for number in edge_numbers(base):
                text = spelled(number, base)
                told = read_number(text, base)
                self.assertEqual(told, int(text, base))
                self.assertEqual(told, number)
                self.assertIs(type(told), int)

    def test_what_is_shown_is_read_again(self):
        for base in BASES:
            for number in range(0, 2000):
                self.assertEqual(read_number(number_shown(number, base), base), number)

    def test_a_single_nought_is_zero(self):
        for base in BASES:
            self.assertEqual(read_number("0", base), 0)

    def test_noughts_behind_a_figure_are_read(self):
        self.assertEqual(read_number("100", 10), 100)
        self.assertEqual(read_number("1" + "0" * 39, 16), 16 ** 39)

    def test_two_hundred_signs(self):
        self.assertEqual(read_number("1" * 200, 2), 2 ** 200 - 1)
        self.assertEqual(read_number("f" * 200, 16), 16 ** 200 - 1)


class Refused(unittest.TestCase):
    def refused_at(self, text, base, place):
        with self.subTest(text=text, base=base):
            with self.assertRaises(NoNumber) as caught:
                read_number(text, base)
            self.assertEqual(caught.exception.place, place)
            self.assertIs(type(caught.exception.place), int)
            self.assertIsInstance(caught.exception, FigureError)

    def test_a_text_without_signs(self):
        for base in BASES:
            self.refused_at("", base, 0)

    def test_a_nought_ahead(self):
        for base in BASES:
            for text in ("00", "01", "000", "0001", "010"):
                self.refused_at(text, base, 0)

    def test_a_nought_ahead_of_a_wrong_sign(self):
        for text in ("0x", "0b1", "0-", "0 ", "0\n", "0_1", "0g"):
            self.refused_at(text, 10, 0)
        self.refused_at("0b1", 16, 0)
        self.refused_at("02", 2, 0)

    def test_a_wrong_sign_at_the_first_place_amid_and_last(self):
        wrong = "ghzABFGZ+-_ \n.,/:@`~!\"#$&'()*;<=>?[\\]^{|}"
        for base in BASES:
            for sign in wrong:
                self.refused_at(sign, base, 0)
                self.refused_at(sign + "11", base, 0)
                self.refused_at("11" + sign + "1", base, 2)
                self.refused_at("1" * 9 + sign, base, 9)

    def test_the_first_of_several_wrong_signs_is_told(self):
        self.refused_at("1x2y", 10, 1)
        self.refused_at("12y-", 10, 2)
        self.refused_at("++", 10, 0)
        self.refused_at("-0", 10, 0)

    def test_a_figure_of_a_greater_base(self):
        for base in range(2, 16):
            for figure in range(base, 16):
                sign = DIGITS[figure]
                self.refused_at(sign, base, 0)
                self.refused_at(sign + "0", base, 0)
                self.refused_at("10" + sign + "1", base, 2)
                self.refused_at("101" + sign, base, 3)

    def test_the_greatest_figure_is_let_by(self):
        for base in BASES:
            sign = DIGITS[base - 1]
            self.assertEqual(read_number("1" + sign, base), 2 * base - 1)

    def test_great_letters(self):
        self.refused_at("FF", 16, 0)
        self.refused_at("fF", 16, 1)
        self.refused_at("1A", 11, 1)

    def test_what_python_would_read(self):
        for text, place in (
            ("+1", 0),
            ("-1", 0),
            (" 1", 0),
            ("1 ", 1),
            ("\n1", 0),
            ("1\n", 1),
            ("1_0", 1),
            ("1 0", 1),
            ("_1", 0),
            ("1_", 1),
        ):
            self.refused_at(text, 10, place)
            self.refused_at(text, 2, place)

    def test_the_last_of_two_hundred_signs(self):
        self.refused_at("1" * 199 + "x", 10, 199)
        self.refused_at("1" * 199 + "2", 2, 199)


class Figures(unittest.TestCase):
    def test_known_ones(self):
        for number, base, figures in (
            (0, 10, (0,)),
            (0, 2, (0,)),
            (7, 10, (7,)),
            (10, 10, (1, 0)),
            (907, 10, (9, 0, 7)),
            (100, 10, (1, 0, 0)),
            (6, 2, (1, 1, 0)),
            (0xF0A, 16, (15, 0, 10)),
        ):
            with self.subTest(number=number, base=base):
                self.assertEqual(figures_of(number, base), figures)

    def test_a_tuple_of_whole_numbers_is_told(self):
        for number in (0, 1, 305, 16 ** 40 - 1):
            told = figures_of(number, 7)
            self.assertIs(type(told), tuple)
            for figure in told:
                self.assertIs(type(figure), int)

    def test_edges_of_all_bases(self):
        for base in BASES:
            for number in edge_numbers(base):
                figures = tuple(int(sign, 16) for sign in spelled(number, base))
                self.assertEqual(figures_of(number, base), figures)


class Steps(unittest.TestCase):
    def test_known_ones(self):
        for number, base, power, step in (
            (0, 10, 2, 0),
            (7, 10, 1, 7),
            (7, 10, 2, 49),
            (89, 10, 2, 145),
            (153, 10, 3, 153),
            (1000, 10, 3, 1),
            (909, 10, 2, 162),
            (15, 2, 10, 4),
            (0xFF, 16, 2, 450),
            (2, 3, 9, 512),
        ):
            with self.subTest(number=number, base=base, power=power):
                self.assertEqual(step_of(number, base, power), step)

    def test_the_step_of_nought_is_nought(self):
        for base, power in PAIRS:
            self.assertEqual(step_of(0, base, power), 0)

    def test_noughts_add_nothing(self):
        for base, power in PAIRS:
            self.assertEqual(step_of(base ** 20, base, power), 1)

    def test_the_greatest_figure_again_and_again(self):
        for base, power in PAIRS:
            for many in (1, 2, 5, 39):
                step = step_of(base ** many - 1, base, power)
                self.assertEqual(step, many * (base - 1) ** power)

    def test_all_pairs_at_their_edges(self):
        for base, power in PAIRS:
            for number in edge_numbers(base)[::3]:
                told = step_of(number, base, power)
                self.assertEqual(told, plain_step(number, base, power))
                self.assertIs(type(told), int)

    def test_power_one_is_the_sum_of_the_figures(self):
        for base in BASES:
            for number in range(0, 600):
                self.assertEqual(step_of(number, base, 1), sum(figures_of(number, base)))


class Rows(unittest.TestCase):
    def test_known_ones(self):
        self.assertEqual(row_from(4, 10, 2, 9), (4, 16, 37, 58, 89, 145, 42, 20, 4))
        self.assertEqual(row_from(7, 10, 2, 6), (7, 49, 97, 130, 10, 1))
        self.assertEqual(row_from(153, 10, 3, 3), (153, 153, 153))
        self.assertEqual(row_from(0, 2, 1, 4), (0, 0, 0, 0))

    def test_none_and_one(self):
        for base, power in PAIRS:
            for number in (0, 1, base, 16 ** 40 - 1):
                self.assertEqual(row_from(number, base, power, 0), ())
                self.assertEqual(row_from(number, base, power, 1), (number,))

    def test_rows_of_two_and_sixty(self):
        for base, power in PAIRS:
            for number in (0, 1, base - 1, base, 12345, 16 ** 40 - 1):
                two = row_from(number, base, power, 2)
                self.assertEqual(two, (number, plain_step(number, base, power)))
                row = row_from(number, base, power, 60)
                self.assertIs(type(row), tuple)
                self.assertEqual(len(row), 60)
                self.assertEqual(row[0], number)
                for ahead, behind in zip(row, row[1:]):
                    self.assertEqual(behind, plain_step(ahead, base, power))
                for told in row:
                    self.assertIs(type(told), int)
