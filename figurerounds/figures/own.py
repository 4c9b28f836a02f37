"""Numbers that are the sum of their own figures, each taken to the power of how many they are."""

from figurerounds.figures.written import power_of, step_of


def own_numbers(base, many):
    """All numbers of so many figures that are their own step by the pair (base, many): rising."""
    behind = many // 2
    weight = power_of(base, behind)
    backs = backs_by_gain(weight, base, many)
    found = []
    # The figures in front and those behind add to number and step each for
    # themselves: a back fits where its step gains just what the front's lacks.
    for front in fronts_of(base, many, many - behind):
        lacking = front * weight - step_of(front, base, many)
        for back in backs.get(lacking, []):
            found.append(front * weight + back)
    return tuple(found)


def fronts_of(base, many, ahead):
    """What the first figures, so many as are ahead, of a number of so many figures may write."""
    # Only the number 0 begins with a nought.
    first = 0 if many == 1 else power_of(base, ahead - 1)
    return list(range(first, power_of(base, ahead)))


def backs_by_gain(weight, base, many):
    """All numbers below the weight, rising, by what their step has beyond them."""
    backs = {}
    for back in range(weight):
        backs.setdefault(step_of(back, base, many) - back, []).append(back)
    return backs
