"""What the tests compare with: the plainest ways to the same answers."""

DIGITS = "0123456789abcdef"

PAIRS = [
    (base, power)
    for base in range(2, 17)
    for power in range(1, 11)
    if (base - 1) ** power <= 1000
]

BASES = range(2, 17)


def spelled(number, base):
    """The number in the base, from the last figure to the first."""
    text = DIGITS[number % base]
    while number >= base:
        number //= base
        text = DIGITS[number % base] + text
    return text


def plain_step(number, base, power):
    return sum(int(sign, 16) ** power for sign in spelled(number, base))


def steps_below(bound, base, power):
    """The steps of 0, 1, 2 and on, each from that of the number without its last figure."""
    steps = list(range(base))
    steps = [figure ** power for figure in steps]
    for number in range(base, bound):
        steps.append(steps[number // base] + steps[number % base])
    return steps[:bound]


def plain_length(base, power):
    length = 2
    while not length * (base - 1) ** power < base ** (length - 1):
        length += 1
    return length


def edge_numbers(base):
    """Numbers at which the writing of a number turns, up to just below 16 ** 40."""
    bound = 16 ** 40
    numbers = list(range(0, 2 * base + 2)) + [bound - 1, bound - 2, bound // 3]
    power = base
    while power < bound:
        numbers += [power - 1, power, min(power + 1, bound - 1)]
        power *= base
    return sorted(set(numbers))


def plain_row(number, base, power):
    """The numbers that steps lead to from this one on, each once, and where the round among them begins."""
    row = []
    while number not in row:
        row.append(number)
        number = plain_step(number, base, power)
    return row, row.index(number)


def plain_end(number, base, power):
    row, away = plain_row(number, base, power)
    return away, min(row[away:])


def plain_ends(bound, base, power):
    """Where the numbers below the bound end: each by walking the row of its own steps."""
    steps = steps_below(max(bound, base ** plain_length(base, power)), base, power)
    ends = []
    for start in range(bound):
        row = {}
        number = start
        while number not in row:
            row[number] = len(row)
            number = steps[number]
        away = row[number]
        ends.append((away, min(list(row)[away:])))
    return ends


def plain_rounds(base, power):
    """All rounds, found from each of the numbers that do not go down."""
    steps = steps_below(base ** plain_length(base, power), base, power)
    rounds = {}
    for start, step in enumerate(steps):
        if step < start:
            continue
        row = []
        number = start
        while number not in row:
            row.append(number)
            number = steps[number]
        turn = row[row.index(number):]
        at = turn.index(min(turn))
        rounds[min(turn)] = tuple(turn[at:] + turn[:at])
    return tuple(rounds[least] for least in sorted(rounds))


def plain_paper(number, base, power):
    least = plain_end(number, base, power)[1]
    row = [number]
    while row.count(least) < 2:
        row.append(plain_step(row[-1], base, power))
    return tuple(row)
