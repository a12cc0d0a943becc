import fractions
import itertools
import math
import random
import unittest

from coverclocks.clocks import clocks_good
from coverclocks.exact import exact_many, exact_of, exact_steps, exact_with, first_moved, moved_kinds, moved_to
from coverclocks.splits import split_at, split_paper
from coverclocks.tallies import exact_good
from tests.helper import (
    BOX, FAR, GREAT, HALVED, HALVES, TWELFTHS, count, exact_look, made_look, moved_look, parts_look, round_great,
    some_clocks, split_drawn,
)

# By hand: where a prime p alone divides n, those of n times p are one more than the ways to choose p of those of n.
KNOWN = {1: 1, 2: 2, 3: 2, 4: 5, 5: 2, 7: 2, 8: 26, 9: 9, 11: 2, 13: 2, 16: 677}


def divisors(n):
    return [step for step in range(1, n + 1) if n % step == 0]


def counted_look(n):
    """How many exact clocks there are: each clock is left or taken, where it rings at none that is rung already."""
    ways = {0: 1}
    for step in divisors(n):
        for rest in range(step):
            mark = sum(1 << number for number in range(rest, n, step))
            grown = dict(ways)
            for rung_ones, many in ways.items():
                if rung_ones & mark == 0:
                    grown[rung_ones | mark] = grown.get(rung_ones | mark, 0) + many
            ways = grown
    return ways[(1 << n) - 1]


def listed_look(n, most=99):
    """All exact clocks that come by splits from (1, 0); whether these are all the count tells."""
    found = {((1, 0),)}
    grown = list(found)
    while grown:
        clocks = grown.pop()
        for clock in clocks:
            for k in divisors(n // clock[0])[1:]:
                split = tuple(sorted(set(clocks) - {clock} | set(parts_look(clock, k))))
                if len(split) <= most and split not in found:
                    found.add(split)
                    grown.append(split)
    return sorted(found)


def steps_of(clocks):
    return tuple(step for step, rest in clocks)


def by_steps(listed):
    found = {}
    for clocks in listed:
        found.setdefault(steps_of(clocks), []).append(clocks)
    return found


def share_one(steps):
    return sum(fractions.Fraction(1, step) for step in steps) == 1


def with_look(steps):
    """By trying all rests, in the order of tuples."""
    many = math.lcm(*steps)
    for rests in itertools.product(*[range(step) for step in steps]):
        clocks = tuple(zip(steps, rests))
        if all(count(clocks, number) == 1 for number in range(many)):
            return clocks
    return None


def in_turn_look(steps, rung_ones=frozenset(), many=None):
    """By trying the rests in turn, step by step, where these ring at none that is rung already."""
    many = many or math.lcm(*steps)
    if not steps:
        return () if len(rung_ones) == many else None
    for rest in range(steps[0]):
        numbers = frozenset(range(rest, many, steps[0]))
        if not numbers & rung_ones:
            found = in_turn_look(steps[1:], rung_ones | numbers, many)
            if found is not None:
                return ((steps[0], rest),) + found
    return None


def first_look(clocks):
    return min(moved_look(clocks, number) for number in range(round_great(clocks)))


class ExactOf(unittest.TestCase):
    def test_each_to_twelve(self):
        for n in range(1, 13):
            told = exact_of(n)
            self.assertIsInstance(told, list)
            self.assertEqual(told, listed_look(n))
            self.assertEqual(len(told), counted_look(n))
            for clocks in told:
                self.assertTrue(exact_look(clocks))
                self.assertIs(clocks_good(clocks), True)
                self.assertTrue(all(n % step == 0 for step, rest in clocks))

    def test_all_sets_of_clocks(self):
        for n in (1, 2, 3, 4, 5, 6, 7, 8, 9, 11):
            world = [(step, rest) for step in divisors(n) for rest in range(step)]
            found = []
            for mark in range(1 << len(world)):
                chosen = [clock for place, clock in enumerate(world) if mark >> place & 1]
                if sum(n // step for step, rest in chosen) == n and exact_look(chosen):
                    found.append(tuple(chosen))
            self.assertEqual(exact_of(n), sorted(found))

    def test_known(self):
        self.assertEqual(exact_of(1), [((1, 0),)])
        self.assertEqual(exact_of(2), [((1, 0),), HALVES])
        self.assertEqual(exact_of(4), [
            ((1, 0),), HALVES, ((2, 0), (4, 1), (4, 3)), ((2, 1), (4, 0), (4, 2)), ((4, 0), (4, 1), (4, 2), (4, 3)),
        ])
        self.assertEqual(exact_of(12)[-1], TWELFTHS)

    def test_how_many(self):
        for n in range(1, 17):
            self.assertEqual(exact_many(n), counted_look(n))
        for n, many in KNOWN.items():
            self.assertEqual(exact_many(n), many)
        self.assertEqual(exact_many(12), 206)

    def test_somewhat_beyond(self):
        self.assertEqual(exact_many(17), 2)
        self.assertEqual(exact_many(18), len(listed_look(18)))
        self.assertEqual(exact_of(13)[0], ((1, 0),))

    def test_the_list_is_the_askers_own(self):
        for n in (1, 6, 12):
            first = exact_of(n)
            kept = list(first)
            first.clear()
            first.append("spoilt")
            self.assertEqual(exact_of(n), kept)
            self.assertIsNot(exact_of(n), exact_of(n))
            self.assertEqual(exact_many(n), len(kept))

    def test_the_same_again(self):
        told = [(exact_of(n), exact_many(n), exact_steps(n), moved_kinds(n)) for n in range(1, 13)]
        for n in reversed(range(1, 13)):
            self.assertEqual((exact_of(n), exact_many(n), exact_steps(n), moved_kinds(n)), told[n - 1])

    def test_all_are_exact_and_split_where_some_prime_alone_divides(self):
        for n in range(1, 13):
            for clocks in exact_of(n):
                self.assertIs(exact_good(clocks), True)
                if n in (2, 3, 4, 5, 7, 8, 9, 11):
                    paper = split_paper(clocks)
                    self.assertTrue(paper is not None or clocks == ((1, 0),))
                    self.assertEqual(sorted(made_look(paper)), list(clocks))

    def test_what_is_split_stays_in_the_list(self):
        asked = 0
        for n in range(1, 13):
            listed = exact_of(n)
            for clocks in listed:
                for place, clock in enumerate(clocks):
                    for k in range(2, n + 1):
                        if n % (clock[0] * k) == 0:
                            self.assertIn(split_at(clocks, place, k), listed)
                            asked += 1
        self.assertGreater(asked, 900)


class ExactSteps(unittest.TestCase):
    def test_each_to_twelve(self):
        for n in range(1, 13):
            looked = sorted((steps, len(clocks)) for steps, clocks in by_steps(listed_look(n)).items())
            told = exact_steps(n)
            self.assertEqual(told, looked)
            self.assertEqual(sum(many for steps, many in told), exact_many(n))
            for pair in told:
                self.assertIsInstance(pair, tuple)
                self.assertEqual(list(pair[0]), sorted(pair[0]))
                self.assertGreater(pair[1], 0)

    def test_known(self):
        self.assertEqual(exact_steps(1), [((1,), 1)])
        self.assertEqual(exact_steps(4), [((1,), 1), ((2, 2), 1), ((2, 4, 4), 2), ((4, 4, 4, 4), 1)])

    def test_the_list_is_the_askers_own(self):
        exact_steps(6).clear()
        self.assertEqual(len(exact_steps(6)), len(by_steps(listed_look(6))))


class ExactWith(unittest.TestCase):
    def test_all_rests_tried(self):
        found = {True: 0, False: 0}
        for many, most in ((1, 12), (2, 12), (3, 12), (4, 12), (5, 8), (6, 4)):
            for steps in itertools.combinations_with_replacement(range(1, most + 1), many):
                if math.prod(steps) <= 1300:
                    looked = with_look(steps)
                    self.assertEqual(exact_with(steps), looked, steps)
                    if share_one(steps):
                        found[looked is None] += 1
        self.assertGreater(min(found.values()), 4)

    def test_all_of_some_divisors(self):
        """All steps of share 1 that divide n: those of all exact clocks have the first of them, the others None."""
        none = 0
        for n in (12, 16, 18, 20, 24, 36):
            listed = by_steps(listed_look(n, 10))
            for many in range(1, 11):
                for steps in itertools.combinations_with_replacement(divisors(n), many):
                    if sum(n // step for step in steps) == n:
                        looked = listed.get(steps, [None])[0]
                        self.assertEqual(exact_with(steps), looked, steps)
                        none += looked is None
        self.assertGreater(none, 100)

    def test_steps_of_sixty(self):
        for steps in ((4, 4, 6, 6, 12, 60, 60, 60, 60, 60), (2, 4, 12, 12, 15, 15, 20, 30, 60, 60),
                      (2, 10, 10, 10, 20, 20, 30, 30, 60, 60), (2, 3, 12, 60, 60, 60, 60, 60),
                      (4, 4, 4, 20, 20, 20, 20, 60, 60, 60), (2, 6, 6, 12, 24, 24, 48, 48, 48, 48),
                      (6, 6, 6, 6, 9, 18, 18, 18, 36, 36), (2, 6, 6, 18, 18, 54, 54, 54)):
            looked = in_turn_look(steps)
            self.assertEqual(exact_with(steps), looked, steps)
            if looked is not None:
                self.assertTrue(exact_look(looked))

    def test_ten_steps(self):
        self.assertEqual(exact_with((10,) * 10), tuple((10, rest) for rest in range(10)))
        steps = (2, 4, 8, 16, 32, 56, 56, 56, 56, 56)
        self.assertIsNone(exact_with(steps))
        self.assertEqual(exact_with((5, 5, 5, 5, 30, 30, 30, 30, 30, 30)), tuple(
            [(5, 0), (5, 1), (5, 2), (5, 3)] + [(30, rest) for rest in range(4, 30, 5)]
        ))
        # The last half in four, of the ten that are halved in turn.
        self.assertEqual(exact_with((2, 4, 8, 16, 32, 32)), ((2, 0), (4, 1), (8, 3), (16, 7), (32, 15), (32, 31)))

    def test_known(self):
        self.assertEqual(exact_with((1,)), ((1, 0),))
        self.assertEqual(exact_with((2, 2)), HALVES)
        self.assertEqual(exact_with((2, 4, 4)), ((2, 0), (4, 1), (4, 3)))
        self.assertEqual(exact_with((4, 4, 6, 6, 6)), ((4, 0), (4, 2), (6, 1), (6, 3), (6, 5)))
        self.assertEqual(exact_with((3, 3, 6, 6)), ((3, 0), (3, 1), (6, 2), (6, 5)))

    def test_none_where_the_shares_are_not_one(self):
        for steps in ((2,), (60,), (1, 1), (1, 60), (2, 2, 2), (2, 3), (60,) * 10, (2, 4, 8, 16), (3, 3, 3, 60),
                      (2, 3, 5, 7, 11, 13, 17, 19, 23, 29), (41, 43, 47, 49, 51, 53, 55, 57, 59, 60), (1,) * 10):
            self.assertFalse(share_one(steps))
            self.assertIsNone(exact_with(steps))

    def test_none_where_the_greatest_step_stands_alone(self):
        for steps in ((2, 3, 6), (2, 4, 6, 12), (2, 4, 5, 20), (2, 8, 12, 12, 16, 24, 24, 40, 48, 60),
                      (4, 4, 8, 8, 12, 16, 24, 40, 48, 60), (5, 5, 5, 10, 10, 15, 20, 30, 30, 60)):
            self.assertEqual(steps.count(steps[-1]), 1)
            self.assertTrue(share_one(steps), steps)
            self.assertIsNone(exact_with(steps))

    def test_none_though_the_shares_are_one(self):
        for steps in ((3, 4, 4, 12, 12), (4, 4, 8, 8, 12, 16, 24, 48, 48, 48), (6, 6, 6, 6, 9, 12, 18, 36, 36, 36),
                      (2, 5, 10, 20, 30, 30, 40, 40, 60, 60), (2, 4, 12, 24, 40, 40, 48, 48, 60, 60)):
            self.assertTrue(share_one(steps), steps)
            self.assertIsNone(exact_with(steps))

    def test_somewhat_beyond(self):
        self.assertEqual(exact_with((12,) * 12), TWELFTHS)
        self.assertEqual(exact_with((13,) * 13), tuple((13, rest) for rest in range(13)))
        self.assertTrue(exact_look(exact_with(steps_of(BOX))))
        self.assertEqual(exact_with((2, 64, 64)), None)

    def test_drawn_by_splits(self):
        source = random.Random(95)
        for turn in range(60):
            clocks = split_drawn(source, 10, 60)
            told = exact_with(steps_of(clocks))
            self.assertTrue(exact_look(told))
            self.assertEqual(steps_of(told), steps_of(clocks))
            self.assertLessEqual(told, clocks)
            self.assertIs(clocks_good(told), True)
            self.assertEqual(told[0][1], 0)


class Moved(unittest.TestCase):
    def test_moved_to(self):
        drawn = some_clocks(96, 40, 40, 12) + [(), HALVES, HALVED, TWELFTHS, GREAT, ((1000, 0), (1000, 999))]
        for clocks in drawn:
            for number in (0, 1, -1, 7, -7, 60, 1000, FAR, -FAR, 10 ** 60 - 1, 1 - 10 ** 60):
                told = moved_to(clocks, number)
                self.assertEqual(told, moved_look(clocks, number))
                self.assertIs(clocks_good(told), True)
                self.assertEqual(moved_to(told, -number), clocks)

    def test_rings_by_so_much_later(self):
        for clocks in some_clocks(97, 40, 12, 8):
            for number in (-FAR, -5, 0, 3, FAR):
                told = moved_to(clocks, number)
                for looked in range(-20, 21):
                    self.assertEqual(count(told, looked + number), count(clocks, looked))

    def test_known(self):
        self.assertEqual(moved_to((), 5), ())
        self.assertEqual(moved_to(((2, 0), (4, 1), (4, 3)), 1), ((2, 1), (4, 0), (4, 2)))
        self.assertEqual(moved_to(((3, 0), (3, 2), (5, 4)), -1), ((3, 1), (3, 2), (5, 3)))
        step = 10 ** 70
        self.assertEqual(moved_to(((2, 1), (step, step - 1)), 2), ((2, 1), (step, 1)))

    def test_exact_ones_stay_exact(self):
        source = random.Random(98)
        for turn in range(40):
            clocks = split_drawn(source, 12, 200)
            for number in (1, -3, 10 ** 30 + 1):
                self.assertTrue(exact_look(moved_to(clocks, number)))

    def test_first_moved(self):
        source = random.Random(99)
        drawn = [split_drawn(source, 12, 120) for turn in range(60)]
        for clocks in drawn + [((1, 0),), HALVES, TWELFTHS, BOX, HALVED[:7] + ((128, 127),)]:
            first = first_moved(clocks)
            self.assertEqual(first, first_look(clocks))
            for number in (1, 5, -FAR):
                self.assertEqual(first_moved(moved_to(clocks, number)), first)

    def test_first_moved_of_all_listed(self):
        for n in range(1, 13):
            for clocks in listed_look(n):
                self.assertEqual(first_moved(clocks), first_look(clocks))

    def test_first_moved_known(self):
        self.assertEqual(first_moved(((1, 0),)), ((1, 0),))
        self.assertEqual(first_moved(((2, 1), (4, 0), (4, 2))), ((2, 0), (4, 1), (4, 3)))
        # Twelve, with steps of 2,048 at last: no exact ones have a greater round.
        twelve = HALVED[:-1] + ((1024, 511), (2048, 1023), (2048, 2047))
        for clocks in (HALVED, twelve):
            self.assertEqual(first_moved(clocks), clocks)
            self.assertEqual(first_moved(moved_to(clocks, 300)), clocks)

    def test_moved_kinds(self):
        for n in range(1, 13):
            kinds = {frozenset(moved_look(clocks, number) for number in range(n)) for clocks in listed_look(n)}
            self.assertEqual(moved_kinds(n), len(kinds))
        self.assertEqual([moved_kinds(n) for n in (1, 2, 3, 4, 5, 6)], [1, 2, 2, 4, 2, 7])


if __name__ == "__main__":
    unittest.main()
