import random
import time
import unittest

from figurerounds.errors import FigureError, NoFigure, NoPlace
from figurerounds.figures.written import read_number, step_of
from figurerounds.kept import KeptNumber
from figurerounds.rounds.ends import end_of
from tests.plain import DIGITS, PAIRS, plain_end, plain_step, spelled

NO_FIGURES = (-1, -7, -10 ** 30, 10 ** 30, 16, 17, 255)


def made_of(text, base, power):
    """A kept number made afresh, figure by figure."""
    number = KeptNumber(base, power)
    for sign in text:
        number.put_figure(DIGITS.index(sign))
    return number


def told_of(number):
    return (number.number_now(), number.step_now(), number.end_now())


class Told(unittest.TestCase):
    def assert_is(self, number, text, base, power):
        """The kept number tells what its figures do."""
        value = int(text, base)
        self.assertEqual(told_of(number), (value, plain_step(value, base, power), plain_end(value, base, power)))

    def refused(self, kind, deed, *given):
        with self.assertRaises(kind) as caught:
            deed(*given)
        self.assertIs(type(caught.exception), kind)
        self.assertIsInstance(caught.exception, FigureError)
        self.assertIs(type(str(caught.exception)), str)


class Deeds(Told):
    def test_nought_at_first(self):
        for base, power in PAIRS:
            self.assertEqual(told_of(KeptNumber(base, power)), (0, 0, (0, 0)))

    def test_known_ones(self):
        number = KeptNumber(10, 2)
        self.assertIsNone(number.put_figure(7))
        self.assertEqual(told_of(number), (7, 49, (5, 1)))
        self.assertIsNone(number.put_figure(0))
        self.assertEqual(told_of(number), (70, 49, (5, 1)))
        self.assertIsNone(number.set_figure(0, 3))
        self.assertEqual(told_of(number), (73, 58, (1, 4)))
        self.assertIsNone(number.set_figure(1, 1))
        self.assertEqual(told_of(number), (13, 10, (2, 1)))
        self.assertIsNone(number.take_off())
        self.assertEqual(told_of(number), (1, 1, (0, 1)))
        self.assertIsNone(number.take_off())
        self.assertEqual(told_of(number), (0, 0, (0, 0)))

    def test_a_figure_takes_the_place_of_nought_alone(self):
        for base, power in PAIRS:
            number = KeptNumber(base, power)
            number.put_figure(0)
            number.put_figure(0)
            self.assert_is(number, "0", base, power)
            number.put_figure(base - 1)
            self.assert_is(number, DIGITS[base - 1], base, power)
            # No nought is left ahead: the one figure there is stands at the place 0.
            self.refused(NoPlace, number.set_figure, 1, 1)
            number.put_figure(0)
            number.put_figure(0)
            number.put_figure(1)
            self.assert_is(number, DIGITS[base - 1] + "001", base, power)

    def test_noughts_behind_others_stay(self):
        number = made_of("1000", 2, 1)
        self.assertEqual(number.number_now(), 8)
        number.take_off()
        self.assertEqual(number.number_now(), 4)
        number.put_figure(1)
        self.assertEqual(number.number_now(), 9)

    def test_taken_off_down_to_nought_and_beyond(self):
        for base, power in PAIRS:
            text = (DIGITS[:base] * 2)[1:21]
            number = made_of(text, base, power)
            while text:
                self.assert_is(number, text, base, power)
                self.assertIsNone(number.take_off())
                text = text[:-1]
            for _ in range(3):
                self.assertEqual(told_of(number), (0, 0, (0, 0)))
                number.take_off()
            number.put_figure(1)
            self.assertEqual(number.number_now(), 1)

    def test_changed_at_each_place(self):
        for base, power in PAIRS:
            text = (DIGITS[1:base] * 9)[:9]
            for place in range(len(text)):
                for figure in range(base):
                    number = made_of(text, base, power)
                    at = len(text) - 1 - place
                    if figure == 0 and at == 0:
                        self.refused(NoFigure, number.set_figure, place, figure)
                        self.assertEqual(number.number_now(), int(text, base))
                    else:
                        self.assertIsNone(number.set_figure(place, figure))
                        self.assertEqual(number.number_now(), int(text[:at] + DIGITS[figure] + text[at + 1:], base))

    def test_one_figure_may_be_a_nought(self):
        number = made_of("5", 10, 2)
        self.assertIsNone(number.set_figure(0, 0))
        self.assertEqual(told_of(number), (0, 0, (0, 0)))
        self.assertIsNone(number.set_figure(0, 0))
        # It is 0 alone now, so the next figure stands in its place.
        number.put_figure(4)
        self.assertEqual(number.number_now(), 4)
        number.set_figure(0, 6)
        self.assertEqual(number.number_now(), 6)

    def test_up_to_forty_figures(self):
        for base, power in PAIRS:
            text = (DIGITS[1:base] * 40)[:40]
            number = made_of(text, base, power)
            self.assert_is(number, text, base, power)
            number.set_figure(39, base - 1)
            number.set_figure(0, 0)
            self.assert_is(number, DIGITS[base - 1] + text[1:-1] + "0", base, power)
            self.refused(NoPlace, number.set_figure, 40, 1)


class Refused(Told):
    def test_figures_that_are_none_of_the_base(self):
        for base, power in PAIRS:
            for text in ("0", "1", "10", "1101"):
                number = made_of(text, base, power)
                for figure in NO_FIGURES + (base, base + 1):
                    if figure >= base or figure < 0:
                        self.refused(NoFigure, number.put_figure, figure)
                        for place in range(len(text)):
                            self.refused(NoFigure, number.set_figure, place, figure)
                self.assert_is(number, text, base, power)

    def test_places_that_there_are_not(self):
        for base, power in PAIRS:
            for text in ("0", "1", "10", "1101"):
                number = made_of(text, base, power)
                for place in (-1, -2, -10 ** 30, len(text), len(text) + 1, 10 ** 30):
                    for figure in (0, 1, base - 1):
                        self.refused(NoPlace, number.set_figure, place, figure)
                self.assert_is(number, text, base, power)

    def test_no_place_ahead_of_no_figure(self):
        number = made_of("70", 10, 2)
        for place in (-1, 2, 10 ** 30):
            for figure in (-1, 10, 10 ** 30):
                self.refused(NoPlace, number.set_figure, place, figure)
        self.assertEqual(number.number_now(), 70)

    def test_a_nought_ahead_of_others(self):
        for base, power in PAIRS:
            for text in ("10", "11", "1" + "0" * 39):
                number = made_of(text, base, power)
                self.refused(NoFigure, number.set_figure, len(text) - 1, 0)
                self.assert_is(number, text, base, power)


class BehindManyDeeds(Told):
    def changed(self, number, text, base, chance):
        """One deed at the kept number, and the text that its figures then are."""
        deed = chance.randrange(8)
        figure = chance.randrange(-1, base + 1)
        place = chance.randrange(-1, len(text) + 1)
        is_figure = 0 <= figure < base
        if deed < 4 and (len(text) < 40 or not is_figure):
            if not is_figure:
                self.refused(NoFigure, number.put_figure, figure)
                return text
            number.put_figure(figure)
            return DIGITS[figure] if text == "0" else text + DIGITS[figure]
        if deed == 4:
            number.take_off()
            return text[:-1] or "0"
        if not 0 <= place < len(text):
            self.refused(NoPlace, number.set_figure, place, figure)
            return text
        at = len(text) - 1 - place
        if not is_figure or (figure == 0 and at == 0 and len(text) > 1):
            self.refused(NoFigure, number.set_figure, place, figure)
            return text
        number.set_figure(place, figure)
        return text[:at] + DIGITS[figure] + text[at + 1:]

    def test_told_behind_each_deed(self):
        for base, power in ((2, 1), (3, 9), (7, 2), (10, 2), (11, 3), (16, 2)):
            chance = random.Random(f"each {base} {power}")
            number = KeptNumber(base, power)
            text = "0"
            for _ in range(700):
                text = self.changed(number, text, base, chance)
                value = int(text, base)
                self.assertEqual(told_of(number), (value, step_of(value, base, power), end_of(value, base, power)))

    def test_told_for_the_first_time_behind_many_as_one_made_afresh(self):
        for base, power in PAIRS:
            chance = random.Random(f"first {base} {power}")
            number = KeptNumber(base, power)
            text = "0"
            for _ in range(chance.randrange(200, 700)):
                text = self.changed(number, text, base, chance)
            self.assert_is(number, text, base, power)
            self.assertEqual(told_of(number), told_of(made_of(text, base, power)))

    def test_asked_in_each_order(self):
        text = "90817263545362718090"
        for names in (("end_now", "step_now", "number_now"), ("step_now", "step_now", "end_now", "end_now")):
            number = made_of(text, 10, 3)
            for name in names:
                self.assertEqual(getattr(number, name)(), getattr(made_of(text, 10, 3), name)())
            number.set_figure(3, 9)
            for name in names:
                changed = made_of(text[:-4] + "9" + text[-3:], 10, 3)
                self.assertEqual(getattr(number, name)(), getattr(changed, name)())

    def test_two_do_not_touch_each_other(self):
        first, second = KeptNumber(10, 2), KeptNumber(10, 2)
        third = KeptNumber(16, 2)
        first.put_figure(4)
        second.put_figure(2)
        third.put_figure(15)
        first.put_figure(5)
        second.take_off()
        third.put_figure(0)
        self.assertEqual([each.number_now() for each in (first, second, third)], [45, 0, 240])
        self.refused(NoFigure, first.put_figure, 15)
        first.set_figure(1, 1)
        self.assertEqual([told_of(each) for each in (first, second)], [(15, 26, (3, 4)), (0, 0, (0, 0))])
        self.assertEqual(third.step_now(), 225)

    def test_long_ones_changed_place_by_place_at_once(self):
        start = time.process_time()
        for base, power in PAIRS:
            number = made_of("1" * 40, base, power)
            for deed in range(660):
                number.set_figure(deed % 40, 1 + deed % (base - 1))
                told = told_of(number)
            self.assertEqual(told[0], read_number(spelled(told[0], base), base))
            self.assertLess(time.process_time() - start, 20)
