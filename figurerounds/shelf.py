"""What is worked out once and kept from call to call, so that the same need not be worked out again."""

SHELF = None


class Shelf:
    """What makers made, each by what it was made of."""

    def __init__(self):
        self.made = {}

    def made_by(self, maker, given):
        """What the maker makes of what is given; made the first time alone."""
        key = (maker, given)
        if key not in self.made:
            self.made[key] = maker(*given)
        return self.made[key]


def from_shelf(maker, given):
    """What maker(*given) makes, as it was made the first time; given is a tuple of whole numbers.

    All who ask get the very same, so nobody may change it. Nothing is taken off the
    shelf again: askers keep to a few sizes of each pair.
    """
    global SHELF
    if SHELF is None:
        SHELF = Shelf()
    return SHELF.made_by(maker, given)


def size_to_make(needed, usual):
    """A size of at least what is needed: the usual one or quarters of it, or beyond it just what is needed.

    So little is made where little is asked, and a growing need makes few sizes.
    """
    size = max(needed, usual)
    while size > 1 and size // 4 >= needed:
        size = size // 4
    return size
