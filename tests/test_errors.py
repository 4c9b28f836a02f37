import unittest

from figurerounds.errors import FigureError, NoAsk, NoFigure, NoNumber, NoPlace, NoRound

OF_TEXTS = (NoRound, NoFigure, NoPlace, NoAsk)
ALL = OF_TEXTS + (NoNumber,)


class WhichStandsUnderWhich(unittest.TestCase):
    def test_figure_error_is_a_value_error(self):
        self.assertTrue(issubclass(FigureError, ValueError))

    def test_each_refusal_stands_under_figure_error(self):
        for kind in ALL:
            with self.subTest(kind=kind.__name__):
                self.assertTrue(issubclass(kind, FigureError))
                self.assertTrue(issubclass(kind, ValueError))

    def test_none_stands_under_another(self):
        for kind in ALL:
            for other in ALL:
                if kind is not other:
                    with self.subTest(kind=kind.__name__, other=other.__name__):
                        self.assertFalse(issubclass(kind, other))

    def test_figure_error_stands_under_none_of_them(self):
        for kind in ALL:
            self.assertFalse(issubclass(FigureError, kind))

    def test_each_is_defined_in_its_file(self):
        for kind in ALL + (FigureError,):
            self.assertEqual(kind.__module__, "figurerounds.errors")


class MadeOfATextOrAPlace(unittest.TestCase):
    def test_str_tells_the_text(self):
        for kind in OF_TEXTS + (FigureError,):
            for text in ("", "no such thing", "two\nlines", " a ' and a \" "):
                with self.subTest(kind=kind.__name__, text=text):
                    self.assertEqual(str(kind(text)), text)

    def test_no_number_keeps_its_place(self):
        for place in (0, 1, 7, 199):
            self.assertEqual(NoNumber(place).place, place)
            self.assertIs(type(NoNumber(place).place), int)

    def test_each_no_number_has_a_place_of_its_own(self):
        first, second = NoNumber(3), NoNumber(5)
        self.assertEqual((first.place, second.place), (3, 5))

    def test_str_of_no_number_is_a_text(self):
        self.assertIs(type(str(NoNumber(4))), str)

    def test_they_are_caught_as_refusals(self):
        for made in (NoRound("a"), NoFigure("b"), NoPlace("c"), NoAsk("d"), NoNumber(0)):
            with self.assertRaises(FigureError):
                raise made
