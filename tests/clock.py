"""Asking many times over, with an eye on the clock."""

import time


def answers_in_time(test, seconds, function, asks):
    """What the function tells of each ask; the test fails as soon as all of it takes too long."""
    start = time.process_time()
    told = []
    for given in asks:
        told.append(function(*given))
        if time.process_time() - start > seconds:
            test.fail(f"{function.__name__}: {len(told)} of {len(asks)} answers took {seconds} seconds")
    return told
