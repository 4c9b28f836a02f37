"""Each pair, asked the greatest that [2] lets of it, is answered at once."""

import pathlib
import subprocess
import sys
import unittest

ROOT = pathlib.Path(__file__).resolve().parent.parent

# In a process of its own: where an answer takes too long, the test fails instead of hanging.
GREATEST_OF_ALL = """
import time

from figurerounds.counts.below import counts_below, nth_in, place_of
from figurerounds.figures.least import how_many_with, least_away, least_with
from figurerounds.figures.own import own_numbers
from figurerounds.rounds.ends import end_of, end_paper, ends_of, paper_shown, rounds_of
from tests.plain import PAIRS

NUMBER = 16 ** 40 - 1
ROW = tuple(range(NUMBER - 59, NUMBER + 1))
LONG = tuple(range(10 ** 5))


def asked(base, power):
    most = 40 * (base - 1) ** power
    yield rounds_of, ()
    yield end_of, (NUMBER,)
    yield ends_of, (ROW,)
    yield end_paper, (NUMBER,)
    for total in (99999, most, most - 1):
        yield least_with, (total,)
    yield counts_below, (10 ** 24,)
    yield place_of, (10 ** 24,)
    for turn in rounds_of(base, power)[-2:]:
        yield nth_in, (10 ** 12, turn[0])
    for steps in (1, 8, 12):
        yield least_away, (steps,)


def too_long(function, given):
    start = time.process_time()
    function(*given)
    taken = time.process_time() - start
    if taken > 2:
        print(function.__name__, given[-3:], taken)


for base, power in PAIRS:
    for function, given in asked(base, power):
        too_long(function, given + (base, power))
    for total in (12 * (base - 1) ** power, 99999):
        too_long(how_many_with, (total, base, power, 12))
    too_long(paper_shown, (NUMBER, base, power, LONG))
for base in range(2, 17):
    too_long(own_numbers, (base, 6))
print("done")
"""


class AtOnce(unittest.TestCase):
    def test_the_greatest_of_all_pairs(self):
        ended = subprocess.run(
            [sys.executable, "-c", GREATEST_OF_ALL], cwd=ROOT, timeout=300, capture_output=True, text=True
        )
        self.assertEqual(ended.stdout, "done\n", ended.stderr)
