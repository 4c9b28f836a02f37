"""The desk: a line asks, and texts are told."""

from figurerounds.counts.below import counts_below, nth_in
from figurerounds.errors import NoAsk, NoNumber
from figurerounds.figures.least import least_with
from figurerounds.figures.written import FIGURES, number_shown, power_of, read_number
from figurerounds.kept import KeptNumber
from figurerounds.rounds.down import greatest_kept, length_down
from figurerounds.rounds.ends import end_of, rounds_of

MOST_SIGNS = 40
SUM_BOUND = 10 ** 5
PLACE_BOUND = 10 ** 12


class Desk:
    """A pair, at first 10 and 2, and a kept number of it."""

    def __init__(self):
        self.base = 10
        self.power = 2
        self.number = KeptNumber(10, 2)

    def ask(self, line):
        """The texts that the line asks for; a refusal changes nothing."""
        match line.split(" "):
            case ["pair", base, power]:
                return self.begin(base, power)
            case ["put", figure]:
                return self.put(figure)
            case ["off"]:
                return self.take_off()
            case ["set", place, figure]:
                return self.change(place, figure)
            case ["show"]:
                return [self.shown(self.number.number_now())]
            case ["step"]:
                return [self.shown(self.number.step_now())]
            case ["ends"]:
                return [self.end_row(self.number.end_now())]
            case ["rounds"]:
                return [self.round_row(turn) for turn in rounds_of(self.base, self.power)]
            case ["greatest"]:
                return [self.shown(greatest_kept(self.base, self.power))]
            case ["length"]:
                return [str(length_down(self.base, self.power))]
            case ["of", *words] if words:
                return self.end_told(" ".join(words))
            case ["least", total]:
                return self.least_told(total)
            case ["count", bound]:
                return self.counts_told(bound)
            case ["place", least, so]:
                return self.place_told(least, so)
        raise NoAsk("no such line")

    def begin(self, base_word, power_word):
        """Takes another pair, and the number 0 of it."""
        base = number_of_ten(base_word)
        power = number_of_ten(power_word)
        if not is_pair(base, power):
            raise NoAsk("no such pair")
        self.base = base
        self.power = power
        self.number = KeptNumber(base, power)
        return []

    def put(self, word):
        """Puts a figure behind the kept number."""
        figure = figure_of(word)
        if self.number.many_figures() >= MOST_SIGNS:
            raise NoAsk("the kept number would have too many figures")
        self.number.put_figure(figure)
        return []

    def take_off(self):
        """Takes off the last figure of the kept number."""
        self.number.take_off()
        return []

    def change(self, place_word, figure_word):
        """Changes a figure of the kept number."""
        place = number_of_ten(place_word)
        self.number.set_figure(place, figure_of(figure_word))
        return []

    def end_told(self, text):
        """Where the number ends that the text writes."""
        check_length(text)
        return [self.end_row(end_of(read_number(text, self.base), self.base, self.power))]

    def least_told(self, word):
        """The least number with a step."""
        total = number_of_ten(word)
        if total >= SUM_BOUND:
            raise NoAsk("the sum is too great")
        return [self.shown_or_none(least_with(total, self.base, self.power))]

    def counts_told(self, word):
        """How many numbers below a bound end in each round, in one row."""
        check_length(word)
        bound = read_number(word, self.base)
        if bound > PLACE_BOUND:
            raise NoAsk("the bound is too great")
        return [" ".join([str(count) for count in counts_below(bound, self.base, self.power)])]

    def place_told(self, round_word, place_word):
        """The number at a place among those that end in a round."""
        check_length(round_word)
        place = number_of_ten(place_word)
        if place >= PLACE_BOUND:
            raise NoAsk("the place is too great")
        least = read_number(round_word, self.base)
        return [self.shown_or_none(nth_in(place, least, self.base, self.power))]

    def shown(self, number):
        """The number as it is written in the base."""
        return number_shown(number, self.base)

    def shown_or_none(self, number):
        """The number as it is written in the base, or none."""
        return "none" if number is None else self.shown(number)

    def end_row(self, end):
        """Where a number ends, in one row: the steps in figures of ten, the least number in the base."""
        return f"{end[0]} {self.shown(end[1])}"

    def round_row(self, turn):
        """The numbers of a round in one row."""
        return " ".join([self.shown(number) for number in turn])


def number_of_ten(word):
    """The number that the word writes in figures of ten; or NoAsk."""
    check_length(word)
    try:
        return read_number(word, 10)
    except NoNumber:
        raise NoAsk("no number in figures of ten") from None


def figure_of(word):
    """The figure that the word's one sign writes, below 0 for a sign that never is a figure; or NoAsk."""
    if len(word) != 1:
        raise NoAsk("a figure is one sign")
    return FIGURES.find(word)


def check_length(word):
    """Refuses with NoAsk a word that is too long for a number."""
    if len(word) > MOST_SIGNS:
        raise NoAsk("the word is too long")


def is_pair(base, power):
    """Whether the base and the power are a pair that the desk takes."""
    # The ranges come first: the power of a great number would take long.
    return 2 <= base <= 16 and 1 <= power <= 10 and power_of(base - 1, power) <= 1000
