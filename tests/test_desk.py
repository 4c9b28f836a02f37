import random
import unittest

from figurerounds.counts.below import counts_below, nth_in
from figurerounds.errors import FigureError, NoAsk, NoFigure, NoNumber, NoPlace, NoRound
from figurerounds.figures.least import least_with
from figurerounds.figures.written import number_shown, step_of
from figurerounds.kept import KeptNumber
from figurerounds.rounds.down import greatest_kept, length_down
from figurerounds.rounds.ends import end_of, rounds_of
from figurerounds.whole import Desk
from tests.plain import PAIRS, plain_step, spelled

SHOWING = ("show", "step", "ends", "rounds", "greatest", "length")


def desk_of(base, power, text="0"):
    desk = Desk()
    desk.ask(f"pair {base} {power}")
    for sign in text:
        desk.ask(f"put {sign}")
    return desk


def all_shown(desk):
    return [desk.ask(line) for line in SHOWING]


class OfDesks(unittest.TestCase):
    def told(self, desk, *rows):
        for line, texts in rows:
            with self.subTest(line=line):
                told = desk.ask(line)
                self.assertIs(type(told), list)
                self.assertEqual(told, texts)

    def refused(self, kind, desk, *lines):
        before = all_shown(desk)
        for line in lines:
            with self.subTest(line=line):
                with self.assertRaises(kind) as caught:
                    desk.ask(line)
                self.assertIs(type(caught.exception), kind)
                self.assertIsInstance(caught.exception, FigureError)
                self.assertIs(type(str(caught.exception)), str)
        self.assertEqual(all_shown(desk), before)

    def refused_at(self, place, desk, *lines):
        self.refused(NoNumber, desk, *lines)
        for line in lines:
            with self.assertRaises(NoNumber) as caught:
                desk.ask(line)
            self.assertEqual(caught.exception.place, place)


class Lines(OfDesks):
    def test_at_first(self):
        self.told(
            Desk(), ("show", ["0"]), ("step", ["0"]), ("ends", ["0 0"]),
            ("rounds", ["0", "1", "4 16 37 58 89 145 42 20"]), ("greatest", ["99"]), ("length", ["4"]),
        )

    def test_base_ten(self):
        self.told(
            Desk(), ("put 7", []), ("show", ["7"]), ("step", ["49"]), ("ends", ["5 1"]), ("put 0", []),
            ("show", ["70"]), ("set 0 3", []), ("show", ["73"]), ("ends", ["1 4"]), ("off", []), ("show", ["7"]),
            ("off", []), ("show", ["0"]), ("off", []), ("show", ["0"]),
            ("of 7", ["5 1"]), ("of 0", ["0 0"]), ("of 145", ["0 4"]),
            ("least 50", ["17"]), ("least 0", ["0"]), ("least 99999", ["none"]),
            ("count 100", ["1 19 80"]), ("count 0", ["0 0 0"]), ("count 1", ["1 0 0"]),
            ("place 1 19", ["100"]), ("place 1 0", ["1"]), ("place 0 0", ["0"]), ("place 0 1", ["none"]),
        )

    def test_base_two(self):
        desk = Desk()
        self.told(
            desk, ("pair 2 10", []), ("show", ["0"]), ("put 1", []), ("put 0", []), ("put 1", []), ("put 1", []),
            ("show", ["1011"]), ("step", ["11"]), ("ends", ["3 1"]), ("rounds", ["0", "1"]), ("greatest", ["1"]),
            ("length", ["3"]), ("of 111", ["3 1"]), ("least 3", ["111"]), ("least 40", ["1" * 40]),
            ("least 41", ["none"]), ("count 1000", ["1 7"]), ("place 1 10", ["1011"]), ("place 0 10", ["none"]),
            ("place 1 999999999999", [spelled(10 ** 12, 2)]),
            ("count " + spelled(10 ** 12, 2), ["1 999999999999"]),
        )

    def test_base_sixteen(self):
        self.told(
            Desk(), ("pair 16 2", []), ("put f", []), ("put 0", []), ("show", ["f0"]), ("step", ["e1"]),
            ("ends", ["3 d"]), ("rounds", ["0", "1", "d a9 b5 92 55 32"]), ("greatest", ["ff"]), ("length", ["4"]),
            ("set 0 a", []), ("set 1 b", []), ("show", ["ba"]), ("of beef", ["11 d"]), ("least 225", ["f"]),
            ("count 10", ["1 6 9"]), ("place d 0", ["3"]), ("place 1 1", [spelled(nth_in(1, 1, 16, 2), 16)]),
            ("count " + spelled(10 ** 12, 16), [" ".join(map(str, counts_below(10 ** 12, 16, 2)))]),
        )

    def test_all_pairs_as_the_parts_tell(self):
        for base, power in PAIRS:
            chance = random.Random(f"desk {base} {power}")
            number = chance.randrange(base ** 40)
            shown = spelled(number, base)
            desk = desk_of(base, power, shown)
            away, least = end_of(number, base, power)
            total, bound, place = chance.randrange(900), chance.randrange(10 ** 12), chance.randrange(10 ** 12)
            last = rounds_of(base, power)[-1][0]
            with_sum = least_with(total, base, power)
            self.told(
                desk, ("show", [shown]), ("step", [spelled(plain_step(number, base, power), base)]),
                ("ends", [f"{away} {spelled(least, base)}"]), ("of " + shown, [f"{away} {spelled(least, base)}"]),
                ("rounds", [" ".join(spelled(each, base) for each in turn) for turn in rounds_of(base, power)]),
                ("greatest", [spelled(greatest_kept(base, power), base)]),
                ("length", [str(length_down(base, power))]),
                (f"least {total}", ["none" if with_sum is None else spelled(with_sum, base)]),
                ("count " + spelled(bound, base), [" ".join(map(str, counts_below(bound, base, power)))]),
                (f"place {spelled(last, base)} {place}", [spelled(nth_in(place, last, base, power), base)]),
            )

    def test_greatest_of_all(self):
        self.told(
            Desk(), ("least 99999", ["none"]), ("count 1000000000000", [" ".join(map(str, counts_below(10 ** 12, 10, 2)))]),
            ("place 1 999999999999", [str(nth_in(10 ** 12 - 1, 1, 10, 2))]),
            ("of " + "9" * 40, ["%d %d" % end_of(10 ** 40 - 1, 10, 2)]),
        )

    def test_pair_begins_the_kept_number_anew(self):
        desk = desk_of(10, 2, "123")
        self.told(desk, ("pair 10 2", []), ("show", ["0"]), ("put 5", []), ("pair 16 1", []), ("show", ["0"]))
        for base, power in PAIRS:
            self.told(desk, (f"pair {base} {power}", []), ("show", ["0"]), ("put 1", []), ("step", ["1"]))

    def test_noughts_behind_nought_and_behind_others(self):
        self.told(
            Desk(), ("put 0", []), ("put 0", []), ("show", ["0"]), ("put 4", []), ("put 0", []), ("put 0", []),
            ("show", ["400"]), ("set 2 1", []), ("set 1 0", []), ("show", ["100"]), ("off", []), ("off", []),
            ("set 0 0", []), ("show", ["0"]), ("put 2", []), ("show", ["2"]),
        )


class OtherLines(OfDesks):
    def test_other_words(self):
        self.refused(
            NoAsk, desk_of(10, 2, "12"), "", "what", "Show", "SHOW", "show!", "shows", "figure", "put1", "pairs 10 2",
            "none", "0", "12", "end", "quit", "\n", "~", "greatest\n", "show\noff", "ends\n",
        )

    def test_words_too_many_or_too_few(self):
        self.refused(
            NoAsk, desk_of(10, 2, "12"), "pair", "pair 10", "pair 10 2 3", "put", "put 1 2", "off 1", "set", "set 1",
            "set 0 1 2", "show 1", "step 1", "ends 12", "rounds 1", "greatest 1", "length 1", "of", "least",
            "least 1 2", "count", "count 1 2", "place", "place 1", "place 1 2 3",
        )

    def test_blanks(self):
        self.refused(
            NoAsk, desk_of(10, 2, "12"), " ", "  ", " show", "show ", "  show", " off", "off ", "put  1", " put 1",
            "put 1 ", "pair 10  2", "pair  10 2", "pair 10 2 ", " pair 10 2", "set  0 1", "set 0  1", "set 0 1 ",
            "least  1", "least 1 ", " least 1", "count 1 ", "count  1", "place  1 1", "place 1  1", "place 1 1 ",
            " of 1", "rounds ", "length ", "greatest ", "step ", "ends ",
        )

    def test_empty_words(self):
        desk = desk_of(10, 2, "12")
        self.refused(
            NoAsk, desk, "pair  2", "pair 10 ", "pair  ", "put ", "set  1", "set 0 ", "set  ", "least ", "place 1 ",
            "place  ",
        )
        self.refused_at(0, desk, "count ", "of ", "place  1")

    def test_other_signs_in_words(self):
        self.refused(NoAsk, desk_of(10, 2, "12"), "show\n", "\nshow", "put 12", "put 1\n", "put\n1", "of\n1", "off\n")


class FiguresOfTen(OfDesks):
    def test_numbers_that_are_none(self):
        desk = desk_of(16, 2, "ab")
        for word in ("x", "a", "-1", "+1", "1.", "1e3", "00", "01", "007", "0x1", "1_0", "-0", "1\n", "none", "1" * 41):
            self.refused(
                NoAsk, desk, f"pair {word} 2", f"pair 10 {word}", f"set {word} 1", f"least {word}", f"place 1 {word}"
            )

    def test_a_nought_alone_is_a_number(self):
        desk = desk_of(10, 2, "12")
        self.told(desk, ("least 0", ["0"]), ("place 1 0", ["1"]), ("set 0 0", []), ("show", ["10"]))

    def test_forty_figures_and_more(self):
        desk = desk_of(10, 2, "12")
        forty, more = "9" * 40, "1" + "0" * 40
        self.refused(NoPlace, desk, f"set {forty} 1", "set 1" + "0" * 39 + " 1")
        self.refused(NoAsk, desk, f"set {more} 1", f"set {more} x", f"set {forty}9 1")
        for word in (forty, more):
            self.refused(
                NoAsk, desk, f"pair {word} 2", f"pair 10 {word}", f"pair 1 {word}", f"least {word}", f"place 1 {word}"
            )

    def test_pairs(self):
        desk = desk_of(10, 2, "12")
        for base in range(0, 20):
            for power in range(0, 13):
                if (base, power) not in PAIRS:
                    self.refused(NoAsk, desk, f"pair {base} {power}")
        self.refused(NoAsk, desk, "pair 1001 1", "pair 2 11", "pair 3 10", "pair 12 3", "pair 17 1", "pair 10 4")
        self.told(desk, ("pair 11 3", []), ("pair 3 9", []), ("pair 2 10", []), ("pair 16 2", []))

    def test_too_great(self):
        desk = desk_of(10, 2, "12")
        self.refused(
            NoAsk, desk, "least 100000", "least 100001", "place 1 1000000000000", "place 1 1000000000001",
            "count 1000000000001", "count 9999999999999", "count " + "9" * 40,
        )
        for base, power in ((2, 10), (3, 9), (16, 2)):
            desk = desk_of(base, power, "1")
            self.refused(NoAsk, desk, "count " + spelled(10 ** 12 + 1, base), "place 1 1000000000000", "least 100000")


class TooLong(OfDesks):
    def test_numbers_of_the_base(self):
        for base, power in ((2, 3), (10, 2), (16, 2)):
            desk = desk_of(base, power, "1")
            for word in ("1" * 41, "1" * 100, "0" * 41, "x" * 41, "1" + "0" * 40):
                self.refused(NoAsk, desk, f"count {word}", f"place {word} 1", f"of {word}")
            self.refused(NoRound, desk, f"place {'1' * 40} 1")
            self.told(desk, ("of " + "1" * 40, ["%d %s" % self.end_shown(int("1" * 40, base), base, power)]))

    def end_shown(self, number, base, power):
        away, least = end_of(number, base, power)
        return away, spelled(least, base)

    def test_figures(self):
        desk = desk_of(16, 2, "1f")
        self.refused(NoAsk, desk, "put 10", "put ff", "put -1", "put 00", "set 0 10", "set 1 00", "set 0 -1", "set 7 10")

    def test_a_forty_first_figure(self):
        for base, power in ((2, 1), (10, 2), (16, 2)):
            desk = desk_of(base, power, "1" * 40)
            self.refused(NoAsk, desk, "put 0", "put 1", "put x", "put -", "put 11", "put ")
            self.told(desk, ("set 0 0", []), ("show", ["1" * 39 + "0"]), ("off", []), ("put 1", []))
            self.told(desk, ("show", ["1" * 40]))
            self.refused(NoAsk, desk, "put 1")


class AsThePartsRefuse(OfDesks):
    def test_figures_of_another_base(self):
        self.refused(NoFigure, desk_of(10, 2, "12"), "put a", "put f", "put g", "put A", "put -", "put ~", "put \n")
        self.refused(NoFigure, desk_of(10, 2, "12"), "set 0 a", "set 1 x", "set 0 F", "set 1 0")
        self.refused(NoFigure, desk_of(2, 1, "11"), "put 2", "set 0 2", "set 1 0", "put 9")
        self.refused(NoFigure, desk_of(16, 2, "f0"), "put g", "put F", "set 0 g", "set 1 0")
        self.refused(NoFigure, desk_of(16, 2), "put g", "set 0 g", "put G")

    def test_no_place_ahead_of_no_figure(self):
        desk = desk_of(10, 2, "12")
        self.refused(NoPlace, desk, "set 2 1", "set 2 0", "set 99 1", "set 2 x", "set 1000 a")

    def test_no_number(self):
        desk = desk_of(10, 2, "12")
        self.refused_at(0, desk, "of x", "of 01", "of 00", "of a1", "of -1", "of  1", "of  ", "of 0 1")
        self.refused_at(1, desk, "of 1 2", "of 1 ", "of 1x", "of 1\n")
        self.refused_at(3, desk, "of 123a", "of 123 456", "of 999  ")
        self.refused_at(0, desk, "count x", "count 01", "count -5", "count 00")
        self.refused_at(2, desk, "count 12f", "count 10\n")
        self.refused_at(0, desk, "place x 1", "place 01 1")
        self.refused_at(1, desk, "place 1a 1", "place 4x 0")
        self.refused_at(39, desk, "of " + "1" * 39 + "a", "count " + "1" * 39 + "a")
        desk = desk_of(2, 1, "11")
        self.refused_at(1, desk, "of 12", "count 12", "place 12 1")

    def test_no_round(self):
        self.refused(NoRound, desk_of(10, 2, "12"), "place 2 0", "place 16 0", "place 3 5", "place 145 1", "place 99 9")
        self.refused(NoRound, desk_of(16, 2, "12"), "place a9 0", "place e 0", "place 10 1")

    def test_no_ask_ahead_of_what_the_parts_refuse(self):
        desk = desk_of(10, 2, "12")
        self.refused(
            NoAsk, desk, "place x x", "place 2 01", "place  01", "place x 1000000000000", "place 16 1000000000000",
            "place " + "x" * 41 + " 1", "place x ", "set 9 10", "set x x", "set 9 ", "of " + "x" * 41,
        )
        self.refused_at(0, desk, "place x 1", "place x 0")


class Changes(OfDesks):
    def test_told_lists_are_the_askers_own(self):
        desk = desk_of(10, 2, "7")
        for line in SHOWING + ("of 7", "least 50", "count 100", "place 1 19", "place 0 1", "put 1", "off"):
            first = desk.ask(line)
            kept = list(first)
            first.append("more")
            first[0] = "other"
            if line not in ("put 1", "off"):
                self.assertEqual(desk.ask(line), kept)
        self.assertEqual(desk.ask("show"), ["7"])
        self.assertEqual(desk.ask("off"), [])

    def test_two_desks_do_not_touch_each_other(self):
        first, second = Desk(), Desk()
        first.ask("pair 16 2")
        first.ask("put f")
        second.ask("put 4")
        self.assertEqual(all_shown(second)[:4], [["4"], ["16"], ["0 4"], ["0", "1", "4 16 37 58 89 145 42 20"]])
        second.ask("off")
        self.assertEqual(first.ask("show"), ["f"])
        self.assertEqual(all_shown(Desk())[:3], [["0"], ["0"], ["0 0"]])

    def test_a_refused_pair_changes_nothing(self):
        desk = desk_of(16, 2, "ab")
        self.refused(NoAsk, desk, "pair 10 x", "pair 10 11", "pair 10 4", "pair 17 1", "pair 10", "pair 10 2 ")
        self.told(desk, ("show", ["ab"]), ("put f", []), ("show", ["abf"]))

    def test_many_deeds_as_a_kept_number(self):
        for base, power in ((2, 5), (10, 2), (16, 2)):
            chance = random.Random(f"deeds {base} {power}")
            desk = desk_of(base, power)
            number = KeptNumber(base, power)
            for _ in range(690):
                self.one_deed(desk, number, base, chance)
                now = number.number_now()
                self.assertEqual(desk.ask("show"), [number_shown(now, base)])
                self.assertEqual(desk.ask("step"), [number_shown(step_of(now, base, power), base)])
                away, least = number.end_now()
                self.assertEqual(desk.ask("ends"), [f"{away} {number_shown(least, base)}"])

    def one_deed(self, desk, number, base, chance):
        """The same deed at the desk and at a kept number: both are refused alike."""
        figure = chance.randrange(base + 1)
        sign = "0123456789abcdefg"[figure]
        place = chance.randrange(12)
        deeds = [
            (f"put {sign}", number.put_figure, (figure,)),
            ("off", number.take_off, ()),
            (f"set {place} {sign}", number.set_figure, (place, figure)),
        ]
        many = len(spelled(number.number_now(), base))
        line, deed, given = chance.choice(deeds if many < 40 else deeds[1:])
        try:
            deed(*given)
        except FigureError as refusal:
            with self.assertRaises(type(refusal)):
                desk.ask(line)
        else:
            self.assertEqual(desk.ask(line), [])
