"""[0.2]: nothing handed in is changed, and the same question has the same answer."""

import copy
import unittest

from coverclocks import clocks as clocks_file
from coverclocks import changed, covering, exact, far, least, splits, tallies, texts, wanted
from coverclocks.desk import Desk
from coverclocks.errors import ClockError
from tests.helper import BOX, FAR, GREAT, HALVED, HALVES, TWELFTHS, some_clocks

CLOCKS = some_clocks(21, 12, 12, 5, 2000) + [(), ((1, 0),), ((2, 0), (2, 1)), GREAT]
OF_CLOCKS = (
    clocks_file.clocks_good, clocks_file.round_of, clocks_file.met_all, covering.covers, covering.first_missed,
    covering.missed_of, covering.cover_paper, tallies.tally_of, tallies.shares_of, tallies.clash_of,
    tallies.exact_good, tallies.evenly_of, tallies.uneven_of, least.idle_of, least.needs_paper, least.least_covers,
    least.fewest_cover, splits.joins_of, splits.split_paper, changed.mirrored_of, texts.clocks_shown,
)
OF_NUMBER = (
    clocks_file.rings_at, tallies.times_at, far.rung_below, far.nth_missed, far.missed_ahead, far.next_missed,
    far.last_missed, exact.moved_to,
)
OF_THING = (
    covering.miss_good, covering.cover_paper_good, tallies.clash_good, tallies.uneven_good, least.lone_at,
    least.needs_good, least.least_good, splits.join_at, splits.split_good, far.missed_ahead,
)
STEPS = ([2], [2, 2], [4, 2, 4], [6, 4, 3, 2, 12], [2, 3, 7], [23, 19, 24], [], [2, None], [[2], 3], {2: [3]}, [1, 2])
OF_STEPS = (wanted.rests_for, wanted.rests_many, wanted.steps_share, wanted.cases_for)
OF_STEPS_AND_THING = (wanted.rests_good, wanted.cases_good)
OF_N = (exact.exact_of, exact.exact_many, exact.exact_steps, exact.moved_kinds)
ROWS = (
    "clocks", "covers", "tally", "put 5 1", "put 2 2", "put 2 0", "split 0 2", "split 0 1", "join 0 1", "join 0 5",
    "mirror", "move -3", "back", "fresh", "drop 7 7", "shown", "nothing", "", None, ["clocks"], {"clocks": []},
)
THINGS = (
    0, 1, (0, 1), (2, [None, None]), [2, (None, None)], (0, [(1, ())]), [0, ()], (0, ([1, ()],)),
    [], [0, 1, 0], {"leaf": [0]}, ("split", 2, [("leaf", 0), ["leaf", 1]]), ([0], {1: [2]}), ["split", 2, []],
)


def told(ask, handed):
    try:
        return ask(*handed)
    except ClockError as refusal:
        return (ask.__name__, refusal.__class__.__name__, vars(refusal))


def say_to(clocks, row):
    """What a desk with these clocks answers, and what it keeps then."""
    desk = Desk()
    for step, rest in clocks:
        desk.say(f"put {step} {rest}")
    return (told(desk.say, (row,)), desk.say("clocks"))


def questions():
    for clocks in CLOCKS:
        for ask in OF_CLOCKS:
            yield ask, (clocks,)
        for ask in OF_NUMBER:
            for number in (0, 5, FAR):
                yield ask, (clocks, number)
        for ask in OF_THING:
            for thing in THINGS:
                yield ask, (clocks, copy.deepcopy(thing))
        for place in (0, 1, 12, [0]):
            yield splits.split_at, (clocks, place, 2)
        yield clocks_file.rings_at, (clocks, -5)
        yield covering.first_within, (clocks, (3, 1))
        yield clocks_file.clocks_of, (list(reversed(clocks)),)
        yield clocks_file.clocks_of, (list(clocks) + [[2, 0], {}],)
        for other in (HALVES, TWELFTHS, (), clocks):
            yield changed.put_together, (clocks, other)
            for place in (0, 2, [0], None):
                yield changed.put_in, (clocks, copy.deepcopy(place), other)
        for clock in ((1, 0), (3, 1), (1000, 7)):
            yield changed.stretched_by, (clocks, clock)
            yield changed.seen_in, (clocks, clock)
        yield texts.clocks_read, (texts.clocks_shown(clocks),)
        for row in ROWS:
            yield say_to, (clocks, copy.deepcopy(row))
    for n in range(1, 13):
        for ask in OF_N:
            yield ask, (n,)
    for clocks in (HALVES, TWELFTHS, HALVED, BOX):
        yield exact.first_moved, (clocks,)
        yield exact.exact_with, (tuple(clock[0] for clock in clocks),)
    for thing in THINGS + ("clocks 1\nclock 2", "clocks 1\nclock 2 0\n"):
        yield texts.clocks_read, (copy.deepcopy(thing),)
    for thing in THINGS:
        yield clocks_file.clock_good, (copy.deepcopy(thing),)
        yield clocks_file.clocks_good, (copy.deepcopy(thing),)
    for steps in STEPS:
        for ask in OF_STEPS:
            yield ask, (copy.deepcopy(steps),)
        for ask in OF_STEPS_AND_THING:
            for thing in THINGS:
                yield ask, (copy.deepcopy(steps), copy.deepcopy(thing))


class Kept(unittest.TestCase):
    def test_nothing_handed_in_is_changed(self):
        for ask, handed in questions():
            kept = copy.deepcopy(handed)
            told(ask, handed)
            self.assertEqual(handed, kept, ask.__name__)

    def test_the_same_question_has_the_same_answer(self):
        first = []
        for ask, handed in questions():
            answer = told(ask, handed)
            first.append(copy.deepcopy(answer))
            if isinstance(answer, list):
                answer.append("spoilt")
        asked = list(questions())
        for place in reversed(range(len(asked))):
            ask, handed = asked[place]
            self.assertEqual(told(ask, handed), first[place], ask.__name__)

    def test_lists_are_new_each_time(self):
        for ask, handed in questions():
            answer = told(ask, handed)
            if isinstance(answer, list):
                self.assertIsNot(answer, told(ask, handed))


if __name__ == "__main__":
    unittest.main()
