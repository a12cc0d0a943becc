import math
import random
import unittest

from coverclocks.clocks import met_all
from coverclocks.errors import NoNumber, TooGreat
from coverclocks.far import last_missed, missed_ahead, next_missed, nth_missed, rung_below
from tests.helper import (
    BOX, FAR, GREAT, HALVED, HALVES, PRIMES, TWELFTHS, UNLIKE, all_clocks, count, counts_look, is_whole, refusal,
    round_great, small_clocks, some_clocks, whatever,
)

NO_NUMBER = (NoNumber, {})
GREAT_TEN = GREAT[2:]
FIRST_PRIMES = tuple((step, 0) for step in (2, 3, 5, 7, 11, 13, 17, 19, 23, 29))
TEN = tuple((11, rest) for rest in range(10))
# Nine that ring at all but one of 512 numbers, one behind the other.
NEARLY = HALVED[:-1]
FARTHEST = 10 ** 40


def below_look(clocks, bound):
    tally = [0] * (len(clocks) + 1)
    for number in range(bound):
        tally[count(clocks, number)] += 1
    return tally


def below_by_rounds(clocks, bound):
    """Counted through one round, and a round taken as often as it goes into the bound."""
    counts = counts_look(clocks)
    times, left = divmod(bound, len(counts))
    return [counts.count(many) * times + counts[:left].count(many) for many in range(len(clocks) + 1)]


def missed_look(clocks, most):
    return [number for number in range(most) if count(clocks, number) == 0]


def near_look(clocks, number, way):
    """The first missed number from this one on, or back; there must be one."""
    while count(clocks, number):
        number += way
    return number


class RungBelow(unittest.TestCase):
    def test_small(self):
        for clocks in small_clocks():
            many = round_great(clocks)
            for bound in (0, 1, 2, 5, many, many + 1, 2 * many):
                self.assertEqual(rung_below(clocks, bound), below_look(clocks, bound))

    def test_number_by_number(self):
        for clocks in some_clocks(71, 25, 60, 10) + [GREAT_TEN, HALVED, UNLIKE, TEN, FIRST_PRIMES]:
            for bound in (0, 1, 17, 999, 2500):
                told = rung_below(clocks, bound)
                self.assertEqual(told, below_look(clocks, bound))
                self.assertEqual(len(told), len(clocks) + 1)

    def test_bounds_of_rounds_and_beyond(self):
        for clocks in some_clocks(72, 40, 30, 10, 3000) + [(), UNLIKE, HALVED, TEN, BOX[:10]]:
            many = round_great(clocks)
            for bound in (0, many - 1, many, many + 1, 2 * many, FARTHEST - 1, FARTHEST, FARTHEST + 1, 10 ** 25 + 7):
                self.assertEqual(rung_below(clocks, bound), below_by_rounds(clocks, bound))

    def test_no_clocks(self):
        for bound in (0, 1, 7, FARTHEST):
            self.assertEqual(rung_below((), bound), [bound])

    def test_a_round_of_thirty_figures(self):
        many = round_great(GREAT_TEN)
        self.assertGreater(many, 10 ** 28)
        for bound in (FARTHEST, FARTHEST - 700, many - 300, many // 3):
            ahead = rung_below(GREAT_TEN, bound)
            behind = rung_below(GREAT_TEN, bound + 600)
            counts = [count(GREAT_TEN, number) for number in range(bound, bound + 600)]
            self.assertEqual([more - less for more, less in zip(behind, ahead)],
                             [counts.count(rung) for rung in range(11)])
            self.assertEqual(sum(ahead), bound)
            rings = sum(len(range(rest, bound % step, step)) + bound // step for step, rest in GREAT_TEN)
            self.assertEqual(sum(rung * times for rung, times in enumerate(ahead)), rings)

    def test_steps_without_a_divisor_in_common(self):
        # Over their round just one number meets all, and those missed are a product.
        steps = (512, 729, 625) + PRIMES
        clocks = tuple(sorted((step, step - 1) for step in steps))
        many = math.prod(steps)
        told = rung_below(clocks, many)
        self.assertEqual(told[0], math.prod(step - 1 for step in steps))
        self.assertEqual(told[10], 1)
        self.assertEqual(told[9], sum(step - 1 for step in steps))
        self.assertEqual(rung_below(clocks, 2 * many), [2 * times for times in told])
        self.assertEqual(rung_below(clocks, many - 1)[10], 0)

    def test_clocks_inside_one_another(self):
        clocks = ((1, 0), (2, 0), (4, 0), (8, 0), (16, 0), (32, 0))
        self.assertEqual(rung_below(clocks, FARTHEST), below_by_rounds(clocks, FARTHEST))
        self.assertEqual(rung_below(clocks, 64), [0, 32, 16, 8, 4, 2, 2])

    def test_told_clocks_of_greater_steps(self):
        one = met_all(GREAT[:3])
        self.assertEqual(rung_below((one,), one[1]), [one[1], 0])
        self.assertEqual(rung_below((one,), one[1] + 1), [one[1], 1])
        self.assertEqual(one[0] % 2, 0)
        self.assertEqual(rung_below(((2, one[1] % 2), one), one[1] + one[0] + 1)[2], 2)

    def test_the_list_is_the_askers_own(self):
        rung_below(HALVES, 9).clear()
        self.assertEqual(rung_below(HALVES, 9), [0, 9, 0])


class TooMany(unittest.TestCase):
    def test_ten_are_taken(self):
        for clocks in (TEN, GREAT_TEN, FIRST_PRIMES, HALVED):
            self.assertEqual(len(clocks), 10)
            self.assertIsNone(refusal(rung_below, clocks, FARTHEST))
            self.assertIsNone(refusal(next_missed, clocks, 0))
            self.assertIsNone(refusal(last_missed, clocks, 0))
        self.assertEqual(refusal(nth_missed, HALVED, 0), NO_NUMBER)

    def test_more_are_refused_ahead_of_all_else(self):
        for clocks in (TEN + ((11, 10),), GREAT[1:], GREAT, TWELFTHS, BOX, HALVED + ((1000, 1),)):
            looked = (TooGreat, {"many": len(clocks), "most": 10})
            for ask in (rung_below, nth_missed, missed_ahead, next_missed, last_missed):
                for number in (0, 1, 7, FARTHEST):
                    self.assertEqual(refusal(ask, clocks, number), looked)
            for thing in whatever():
                self.assertEqual(refusal(missed_ahead, clocks, thing), looked)


class NthMissed(unittest.TestCase):
    def test_number_by_number(self):
        for clocks in list(small_clocks())[::4] + some_clocks(73, 30, 40, 10):
            missed = missed_look(clocks, 300)
            for n, number in enumerate(missed[:40]):
                self.assertEqual(nth_missed(clocks, n), number)
                self.assertEqual(missed_ahead(clocks, number), n)

    def test_far_by_rounds(self):
        for clocks in some_clocks(74, 60, 30, 10, 2000) + [NEARLY, TEN, UNLIKE[1:], ((2, 0),), BOX[:10]]:
            many = round_great(clocks)
            missed = missed_look(clocks, many)
            if missed:
                for n in (0, len(missed) - 1, len(missed), 10 ** 20 + 3, FARTHEST - 1, FARTHEST):
                    number = n // len(missed) * many + missed[n % len(missed)]
                    self.assertEqual(nth_missed(clocks, n), number)
                    self.assertEqual(missed_ahead(clocks, number), n)

    def test_a_great_round(self):
        for clocks in (GREAT_TEN, FIRST_PRIMES, GREAT[:7]):
            for n in (0, 1, 1000, 10 ** 9, 10 ** 33 + 5, FARTHEST):
                number = nth_missed(clocks, n)
                self.assertEqual(count(clocks, number), 0)
                self.assertEqual(missed_ahead(clocks, number), n)
                self.assertEqual(nth_missed(clocks, n + 1), near_look(clocks, number + 1, 1))
            self.assertEqual(nth_missed(clocks, 1000), missed_look(clocks, 10000)[1000])

    def test_no_clocks(self):
        for n in (0, 1, 99, FARTHEST):
            self.assertEqual(nth_missed((), n), n)
            self.assertEqual(missed_ahead((), n), n)
        self.assertEqual(refusal(missed_ahead, (), -1), NO_NUMBER)

    def test_far_apart(self):
        self.assertEqual(missed_look(NEARLY, 2000), [511, 1023, 1535])
        self.assertEqual(nth_missed(NEARLY, 0), 511)
        self.assertEqual(nth_missed(NEARLY, FARTHEST), 511 + 512 * FARTHEST)

    def test_clocks_that_miss_none(self):
        for clocks in (((1, 0),), HALVES, UNLIKE, HALVED, ((1, 0),) + GREAT[:9], HALVES + GREAT[4:]):
            for n in (0, 1, FARTHEST):
                self.assertEqual(refusal(nth_missed, clocks, n), NO_NUMBER)
                self.assertEqual(refusal(missed_ahead, clocks, n), NO_NUMBER)

    def test_whatever_is_no_missed_number(self):
        more = [0, 1, 3, 4, 9, -1, -5, -7, True, False, None, "1", [1], (1,), {1: 1}, 10 ** 99, 10 ** 99 + 1, -10 ** 99]
        for clocks in ((), ((1, 0),), HALVES, ((2, 0),), ((2, 1),), ((2, 0), (3, 0)), UNLIKE, GREAT_TEN):
            for place, thing in enumerate(whatever() + more):
                if is_whole(thing) and thing >= 0 and count(clocks, thing) == 0:
                    self.assertTrue(is_whole(missed_ahead(clocks, thing)))
                else:
                    self.assertEqual(refusal(missed_ahead, clocks, thing), NO_NUMBER, place)

    def test_a_hundred_figures(self):
        self.assertEqual(missed_ahead(((2, 0),), 10 ** 99 + 1), 10 ** 99 // 2)
        self.assertEqual(missed_ahead(((2, 0), (3, 0)), 6 * 10 ** 98 + 5), 2 * 10 ** 98 + 1)


class NextMissed(unittest.TestCase):
    def check(self, clocks, number):
        if all(count(clocks, at) for at in range(round_great(clocks))):
            self.assertIsNone(next_missed(clocks, number))
            self.assertIsNone(last_missed(clocks, number))
        else:
            self.check_missing(clocks, number)

    def check_missing(self, clocks, number):
        self.assertEqual(next_missed(clocks, number), near_look(clocks, number, 1))
        self.assertEqual(last_missed(clocks, number), near_look(clocks, number, -1))

    def test_small(self):
        for clocks in small_clocks():
            if len(clocks) <= 10:
                for number in (-25, -1, 0, 1, 5, FAR, -FAR):
                    self.check(clocks, number)

    def test_greater(self):
        for clocks in some_clocks(75, 60, 12, 10, 2000) + [NEARLY, TEN, UNLIKE, HALVED, UNLIKE[:-1], ()]:
            for number in (-1000, -13, -1, 0, 1, 510, 511, 512, 10 ** 60 - 1, 1 - 10 ** 60, FAR, -FAR):
                self.check(clocks, number)

    def test_great_rounds(self):
        for clocks in (GREAT_TEN, FIRST_PRIMES):
            for number in (-FAR, -1, 0, 1, FAR, 10 ** 60 - 1, 1 - 10 ** 60):
                self.check_missing(clocks, number)

    def test_the_longest_way(self):
        for turn in (0, 1, -1, 10 ** 50, -10 ** 50):
            self.assertEqual(next_missed(NEARLY, 512 * turn), 512 * turn + 511)
            self.assertEqual(last_missed(NEARLY, 512 * turn + 510), 512 * turn - 1)
            self.assertEqual(next_missed(NEARLY, 512 * turn - 1), 512 * turn - 1)
            self.assertEqual(last_missed(NEARLY, 512 * turn - 1), 512 * turn - 1)

    def test_a_great_round_that_misses_none(self):
        for clocks in (HALVES + GREAT[4:], tuple((4, rest) for rest in range(4)) + GREAT[6:]):
            for number in (0, -FAR, FAR):
                self.assertIsNone(next_missed(clocks, number))
                self.assertIsNone(last_missed(clocks, number))


class So(unittest.TestCase):
    def test_over_a_round_it_is_the_tally(self):
        for clocks in list(small_clocks())[::3] + some_clocks(76, 40, 30, 10, 2000):
            counts = counts_look(clocks)
            tally = [counts.count(many) for many in range(len(clocks) + 1)]
            self.assertEqual(rung_below(clocks, len(counts)), tally)
            self.assertEqual(rung_below(clocks, 2 * len(counts)), [2 * times for times in tally])

    def test_missed_below_and_ahead_agree(self):
        source = random.Random(77)
        for clocks in some_clocks(78, 40, 1000, 10):
            if next_missed(clocks, 0) is None:
                continue
            for turn in range(4):
                n = source.randrange(FARTHEST)
                number = nth_missed(clocks, n)
                self.assertEqual(missed_ahead(clocks, number), n)
                self.assertEqual(rung_below(clocks, number)[0], n)
                self.assertEqual(next_missed(clocks, number), number)
                self.assertEqual(last_missed(clocks, number), number)
                self.assertEqual(next_missed(clocks, number + 1), nth_missed(clocks, n + 1))

    def test_rung_at_so_many_numbers_they_miss_none(self):
        source = random.Random(79)
        found = 0
        for turn in range(4000):
            clocks = tuple(sorted(source.sample(all_clocks(6), source.randint(1, 6))))
            start = source.randint(-50, 50)
            if all(count(clocks, start + at) for at in range(2 ** len(clocks))):
                found += 1
                self.assertTrue(all(count(clocks, number) for number in range(round_great(clocks))))
                self.assertIsNone(next_missed(clocks, start))
                self.assertEqual(rung_below(clocks, FARTHEST)[0], 0)
        self.assertGreater(found, 50)


if __name__ == "__main__":
    unittest.main()
