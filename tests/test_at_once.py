"""Each pair, asked the greatest that [2] lets of it, is answered at once."""

import pathlib
import subprocess
import sys
import unittest

ROOT = pathlib.Path(__file__).resolve().parent.parent

# In a process of its own: where an answer takes too long, the test fails instead of hanging.
GREATEST_OF_ALL = """
import time

from figurerounds.counts.below import counts_below, nth_in, place_of
from figurerounds.counts.runs import first_run, longest_run
from figurerounds.counts.shares import greatest_share, shares_of
from figurerounds.figures.least import how_many_with, least_away, least_with
from figurerounds.figures.own import own_numbers
from figurerounds.figures.written import number_shown
from figurerounds.kept import KeptNumber
from figurerounds.rounds.down import greatest_kept
from figurerounds.rounds.ends import end_of, end_paper, ends_of, paper_shown, rounds_of
from figurerounds.whole import Desk
from tests.plain import PAIRS

NUMBER = 16 ** 40 - 1
ROW = tuple(range(NUMBER - 59, NUMBER + 1))
LONG = tuple(range(10 ** 5))


def asked(base, power):
    most = 40 * (base - 1) ** power
    yield rounds_of, ()
    yield end_of, (NUMBER,)
    yield ends_of, (ROW,)
    yield end_paper, (NUMBER,)
    for total in (99999, most, most - 1):
        yield least_with, (total,)
    yield counts_below, (10 ** 24,)
    yield place_of, (10 ** 24,)
    for turn in rounds_of(base, power)[-2:]:
        yield nth_in, (10 ** 12, turn[0])
    for steps in (1, 8, 12):
        yield least_away, (steps,)
    yield greatest_kept, ()
    yield shares_of, (12,)
    for turn in rounds_of(base, power)[-2:]:
        yield greatest_share, (12, turn[0])
        yield first_run, (12, 10 ** 5, turn[0])
        yield longest_run, (10 ** 5, turn[0])


def long_number(base, power):
    number = KeptNumber(base, power)
    for _ in range(40):
        number.put_figure(base - 1)
    for deed in range(660):
        number.set_figure(deed % 40, 1 + deed % (base - 1))
        number.step_now()
        number.end_now()


def desk_lines(base, power):
    desk = Desk()
    desk.ask(f"pair {base} {power}")
    for _ in range(40):
        desk.ask("put 1")
    least = number_shown(rounds_of(base, power)[-1][0], base)
    for line in ("show", "step", "ends", "rounds", "greatest", "length", "of " + "1" * 40, "least 99999",
                 "count " + number_shown(10 ** 12, base), f"place {least} 999999999999"):
        desk.ask(line)


def too_long(function, given):
    start = time.process_time()
    function(*given)
    taken = time.process_time() - start
    if taken > 2:
        print(function.__name__, given[-3:], taken)


for base, power in PAIRS:
    for function, given in asked(base, power):
        too_long(function, given + (base, power))
    for total in (12 * (base - 1) ** power, 99999):
        too_long(how_many_with, (total, base, power, 12))
    too_long(paper_shown, (NUMBER, base, power, LONG))
    too_long(long_number, (base, power))
    too_long(desk_lines, (base, power))
for base in range(2, 17):
    too_long(own_numbers, (base, 6))
print("done")
"""


class AtOnce(unittest.TestCase):
    def test_the_greatest_of_all_pairs(self):
        ended = subprocess.run(
            [sys.executable, "-c", GREATEST_OF_ALL], cwd=ROOT, timeout=300, capture_output=True, text=True
        )
        self.assertEqual(ended.stdout, "done\n", ended.stderr)
