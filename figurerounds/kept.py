"""A number that is kept and changed figure by figure."""

from figurerounds.errors import NoFigure, NoPlace
from figurerounds.figures.worths import worths_of
from figurerounds.rounds.ends import end_of


class KeptNumber:
    """A number of a pair, at first 0."""

    def __init__(self, base, power):
        self.base = base
        self.power = power
        self.worths = worths_of(base, power)
        # The greatest place first; no nought ahead of others.
        self.figures = [0]

    def put_figure(self, figure):
        """Puts the figure behind all others, or in the place of 0 alone; or NoFigure."""
        self.check_figure(figure)
        if self.figures == [0]:
            self.figures = []
        self.figures.append(figure)

    def take_off(self):
        """Takes off the last figure; of one figure 0 is left."""
        self.figures.pop()
        if self.figures == []:
            self.figures = [0]

    def set_figure(self, place, figure):
        """Changes the figure at the place, counted from the last one, from 0; or NoPlace, NoFigure."""
        many = len(self.figures)
        if place < 0 or place >= many:
            raise NoPlace("the number has no such place")
        self.check_figure(figure)
        if figure == 0 and place == many - 1 and many > 1:
            raise NoFigure("a nought would stand ahead of others")
        self.figures[many - 1 - place] = figure

    def number_now(self):
        """The number."""
        number = 0
        for figure in self.figures:
            number = number * self.base + figure
        return number

    def step_now(self):
        """The step of the number."""
        return sum([self.worths[figure] for figure in self.figures])

    def end_now(self):
        """How many steps the number is away from its round, and the round's least number."""
        return end_of(self.number_now(), self.base, self.power)

    def many_figures(self):
        """How many figures the number has."""
        return len(self.figures)

    def check_figure(self, figure):
        """Refuses with NoFigure what is no figure of the base."""
        if figure < 0 or figure >= self.base:
            raise NoFigure("the base has no such figure")
