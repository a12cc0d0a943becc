"""Clocks changed: mirrored, stretched, seen within a clock and put in the stead of one."""

from coverclocks.clocks import MOST_CLOCKS, MOST_STEP, meet_of
from coverclocks.helper import refuse_above, refuse_no_place, rising_once


def mirrored_of(clocks):
    return rising_once([(step, -rest % step) for step, rest in clocks])


def stretched_by(clocks, clock):
    told = stretched(clocks, clock)
    refuse_great_step(told)
    return told


# They rise as they did, for each step and each rest grows alike.
def stretched(clocks, clock):
    return tuple([(clock[0] * step, clock[1] + clock[0] * rest) for step, rest in clocks])


def refuse_great_step(clocks):
    refuse_above(max([clock[0] for clock in clocks], default=1), MOST_STEP)


def seen_in(clocks, clock):
    met = [meet_of(one, clock) for one in clocks]
    return rising_once([shrunk(both, clock) for both in met if both is not None])


# What is stretched to this one, which rings only where the clock does.
def shrunk(inner, clock):
    return (inner[0] // clock[0], (inner[1] - clock[1]) // clock[0])


def put_in(clocks, place, others):
    refuse_no_place(clocks, place)
    put = stretched(others, clocks[place])
    found = put_together(clocks[:place] + clocks[place + 1:], put)
    refuse_great_step(put)
    return found


def put_together(clocks, others):
    found = rising_once(clocks + others)
    refuse_above(len(found), MOST_CLOCKS)
    return found
