import fractions
import math
import unittest

from coverclocks.clocks import met_all
from coverclocks.errors import TooGreat
from coverclocks.tallies import (
    clash_good, clash_of, evenly_of, exact_good, shares_of, tally_of, times_at, uneven_good, uneven_of,
)
from tests.helper import (
    ABOVE, FAR, GREAT, HALVED, HALVES, JUST, LONG, PRIMES, clash_look, count, counts_look, is_whole, round_great, rung,
    small_clocks, some_clocks, whatever,
)

# The even ones by 5 and the last of these by 7, the odd ones whole.
EXACT = tuple(sorted([(2, 1)] + [(10, 2 * turn) for turn in range(4)] + [(70, 8 + 10 * turn) for turn in range(7)]))


def clash_good_look(clocks, thing):
    if type(thing) is not tuple or [type(part) for part in thing] != [int] * 3:
        return False
    if not (0 <= thing[0] < thing[1] < len(clocks)):
        return False
    return rung(clocks[thing[0]], thing[2]) and rung(clocks[thing[1]], thing[2])


def uneven_good_look(clocks, thing):
    if type(thing) is not tuple or [type(part) for part in thing] != [int] * 2:
        return False
    return count(clocks, thing[0]) != count(clocks, thing[1])


class Tallies(unittest.TestCase):
    def test_times_at(self):
        for clocks in some_clocks(11, 40, 20, 12) + [(), GREAT]:
            for number in list(range(-30, 31)) + [FAR, -FAR]:
                self.assertEqual(times_at(clocks, number), count(clocks, number))

    def check(self, clocks):
        counts = counts_look(clocks)
        tally = tally_of(clocks)
        self.assertEqual(tally, [counts.count(many) for many in range(len(clocks) + 1)])
        self.assertEqual(len(tally), len(clocks) + 1)
        share = shares_of(clocks)
        self.assertEqual(sum(place * many for place, many in enumerate(tally)) * share[1], share[0] * len(counts))

    def test_tally_of(self):
        self.assertEqual(tally_of(()), [1])
        self.assertEqual(tally_of(((1, 0),)), [0, 1])
        self.assertEqual(tally_of(((2, 0), (3, 0))), [2, 3, 1])
        self.assertEqual(tally_of(HALVES), [0, 2, 0])
        for clocks in small_clocks():
            self.check(clocks)
        for clocks in some_clocks(12, 40, 60, 12, 2000):
            self.check(clocks)

    def test_the_list_is_the_askers_own(self):
        tally_of(HALVES).clear()
        self.assertEqual(tally_of(HALVES), [0, 2, 0])

    def test_a_round_of_just_so_much(self):
        self.assertEqual(round_great(JUST), 10000)
        self.check(JUST)
        self.assertEqual(uneven_of(JUST), (0, 3))
        self.assertIsNone(evenly_of(JUST))

    def test_too_great(self):
        self.assertEqual(round_great(ABOVE), 10001)
        for clocks in (ABOVE, ((1, 0),) + ABOVE, GREAT):
            for ask in (tally_of, evenly_of, uneven_of):
                with self.assertRaises(TooGreat) as caught:
                    ask(clocks)
                self.assertEqual((caught.exception.many, caught.exception.most), (round_great(clocks), 10000))


class Shares(unittest.TestCase):
    def test_lowest_terms(self):
        self.assertEqual(shares_of(()), (0, 1))
        self.assertEqual(shares_of(((1, 0),)), (1, 1))
        self.assertEqual(shares_of(((2, 0),)), (1, 2))
        self.assertEqual(shares_of(HALVES), (1, 1))
        self.assertEqual(shares_of(((1, 0),) + HALVES), (2, 1))
        self.assertEqual(shares_of(((4, 0), (4, 2), (6, 1))), (2, 3))
        for clocks in list(small_clocks()) + some_clocks(13, 200, 1000, 12) + [GREAT, EXACT]:
            whole = sum((fractions.Fraction(1, clock[0]) for clock in clocks), fractions.Fraction(0))
            self.assertEqual(shares_of(clocks), (whole.numerator, whole.denominator))

    def test_twelve_great_steps(self):
        steps = [512, 729, 625, 841, 961] + list(PRIMES)
        bottom = math.prod(steps)
        self.assertEqual(shares_of(GREAT), (sum(bottom // step for step in steps), bottom))


class Clashes(unittest.TestCase):
    def test_clash_of(self):
        self.assertIsNone(clash_of(()))
        self.assertIsNone(clash_of(((1, 0),)))
        self.assertIsNone(clash_of(HALVES))
        self.assertEqual(clash_of(((2, 0), (2, 1), (3, 2))), (0, 2, 2))
        self.assertEqual(clash_of(((4, 0), (4, 1), (4, 2), (6, 3))), (1, 3, 9))
        for clocks in list(small_clocks()) + some_clocks(14, 200, 40, 5):
            self.assertEqual(clash_of(clocks), clash_look(clocks))

    def test_the_first_pair(self):
        clocks = ((6, 0), (6, 1), (6, 2), (9, 5), (9, 7))
        self.assertEqual(clash_of(clocks), (1, 4, 7))
        self.assertEqual(clash_look(clocks), (1, 4, 7))

    def test_clash_good_of_whatever(self):
        for clocks in [(), ((1, 0),), HALVES, ((2, 0), (3, 0)), ((2, 0), (3, 1), (5, 2)), GREAT]:
            for place, thing in enumerate(whatever()):
                self.assertIs(clash_good(clocks, thing), clash_good_look(clocks, thing), place)

    def test_clash_good(self):
        clocks = ((2, 0), (3, 0), (4, 1))
        for number in (0, 6, -6, 6 * FAR, -6 * LONG):
            self.assertIs(clash_good(clocks, (0, 1, number)), True)
            self.assertIs(clash_good(clocks, (1, 0, number)), False)
            self.assertIs(clash_good(clocks, [0, 1, number]), False)
            self.assertIs(clash_good(clocks, (0, 1, number + 2)), False)
            self.assertIs(clash_good(clocks, (0, 1, number + 3)), False)
        for thing in [(0, 0, 0), (1, 1, 0), (-3, 1, 0), (0, -2, 0), (-3, -2, 0), (0, 3, 0), (0, LONG, 0), (3, 4, 0),
                      (False, 1, 0), (0, True, 0), (0, 1, False), (0, 1), (0, 1, 0, 0), (0, 1, None), (0, 1, "0"),
                      ("0", 1, 0), (None, 1, 0), (0, None, 0), ([0], 1, 0), (0, 2, 0), (0, 2, 1)]:
            self.assertIs(clash_good(clocks, thing), False, repr(thing))
        self.assertIs(clash_good(clocks, (1, 2, 9)), True)
        self.assertIs(clash_good(clocks, (1, 2, -3)), True)
        for place in range(-2, 5):
            for other in range(-2, 5):
                for number in range(-14, 14):
                    thing = (place, other, number)
                    self.assertIs(clash_good(clocks, thing), clash_good_look(clocks, thing))

    def test_what_is_told_is_good(self):
        for clocks in some_clocks(15, 100, 1000, 12) + [GREAT]:
            told = clash_of(clocks)
            if told is not None:
                self.assertIs(clash_good(clocks, told), True)
        rest = met_all(GREAT)[1]
        self.assertIs(clash_good(GREAT, (3, 11, rest)), True)


class Exact(unittest.TestCase):
    def test_exact_good(self):
        found = 0
        for clocks in list(small_clocks()) + some_clocks(16, 100, 12, 6, 2000):
            exact = all(many == 1 for many in counts_look(clocks))
            self.assertIs(exact_good(clocks), exact)
            self.assertIs(exact, shares_of(clocks) == (1, 1) and clash_of(clocks) is None)
            if clash_of(clocks) is None:
                self.assertLessEqual(shares_of(clocks)[0], shares_of(clocks)[1])
            if exact and len(clocks) > 1:
                self.assertEqual(clocks[-1][0], clocks[-2][0])
            found += exact
        self.assertGreater(found, 5)

    def test_none_and_one(self):
        self.assertIs(exact_good(()), False)
        self.assertIs(exact_good(((1, 0),)), True)
        self.assertIs(exact_good(((2, 0),)), False)

    def test_shares_of_one_that_clash(self):
        self.assertEqual(shares_of(((2, 0), (3, 0), (6, 1))), (1, 1))
        self.assertIs(exact_good(((2, 0), (3, 0), (6, 1))), False)

    def test_more_exact_ones(self):
        self.assertIs(exact_good(EXACT), True)
        self.assertIs(exact_good(HALVED), True)
        self.assertIs(exact_good(HALVED[:-1]), False)
        self.assertIs(exact_good(HALVED[:-1] + ((512, 510),)), False)

    def test_great_rounds(self):
        self.assertIs(exact_good(GREAT), False)
        whole = tuple((step, 0) for step in (2, 4, 5, 24, 420, 462, 506, 552))
        self.assertGreater(round_great(whole), 10000)
        self.assertEqual(shares_of(whole), (1, 1))
        self.assertIs(exact_good(whole), False)
        apart = ((42, 0), (110, 1), (195, 2))
        self.assertGreater(round_great(apart), 10000)
        self.assertIsNone(clash_of(apart))
        self.assertIs(exact_good(apart), False)


class Evenly(unittest.TestCase):
    def check(self, clocks):
        counts = counts_look(clocks)
        unlike = [number for number, many in enumerate(counts) if many != counts[0]]
        self.assertEqual(evenly_of(clocks), None if unlike else counts[0])
        self.assertEqual(uneven_of(clocks), (0, unlike[0]) if unlike else None)
        if unlike:
            self.assertIs(uneven_good(clocks, uneven_of(clocks)), True)

    def test_by_a_look(self):
        for clocks in list(small_clocks()) + some_clocks(17, 60, 30, 12, 2000) + [JUST, EXACT]:
            self.check(clocks)

    def test_known(self):
        self.assertEqual(evenly_of(()), 0)
        self.assertIsNone(uneven_of(()))
        self.assertEqual(evenly_of(HALVES), 1)
        self.assertEqual(evenly_of(((1, 0),) + HALVES), 2)
        self.assertIsNone(evenly_of(((2, 0),)))
        self.assertEqual(uneven_of(((2, 0),)), (0, 1))
        self.assertEqual(uneven_of(((5, 3),)), (0, 3))

    def test_uneven_good_of_whatever(self):
        for clocks in [(), HALVES, ((2, 0),), ((2, 0), (3, 1)), ((7, 0), (11, 5)), GREAT]:
            for place, thing in enumerate(whatever()):
                self.assertIs(uneven_good(clocks, thing), uneven_good_look(clocks, thing), place)

    def test_uneven_good(self):
        clocks = ((2, 0), (3, 0))
        for one in list(range(-7, 8)) + [FAR, -LONG]:
            for other in list(range(-7, 8)) + [FAR, -LONG]:
                self.assertIs(uneven_good(clocks, (one, other)), count(clocks, one) != count(clocks, other))
        for thing in [(0, True), (False, 1), [0, 1], (0, 1, 1), (0,), (0, None), ("0", 1), {0: 1}, None, 1]:
            self.assertIs(uneven_good(clocks, thing), False)
        self.assertTrue(is_whole(evenly_of(clocks[:0])))
        rest = met_all(GREAT)[1]
        self.assertIs(uneven_good(GREAT, (0, rest)), True)
        self.assertIs(uneven_good(GREAT, (rest, rest + round_great(GREAT))), False)


if __name__ == "__main__":
    unittest.main()
