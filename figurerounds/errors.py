"""The refusals of the program."""


class FigureError(ValueError):
    """Any refusal."""


class NoRound(FigureError):
    """There is no such round."""


class NoFigure(FigureError):
    """It is no figure of the base, or may not stand there."""


class NoPlace(FigureError):
    """The number has no such place."""


class NoAsk(FigureError):
    """The line asks nothing that the desk knows."""


class NoNumber(FigureError):
    """The text writes no number; place is the first sign that is wrong, from 0."""

    def __init__(self, place):
        super().__init__(f"no number: the sign at place {place} is wrong")
        self.place = place
