import copy
import itertools
import math
import unittest

from coverclocks.clocks import (
    clock_good, clocks_good, clocks_of, first_ring, inside_of, meet_of, met_all, rings_at, round_of,
)
from coverclocks.errors import NoClocks
from tests.helper import (
    FAR, GREAT, LONG, PRIMES, all_clocks, is_clock, round_great, round_looked, rung, small_clocks, some_clocks,
    whatever,
)

TWELVE = tuple((step, 0) for step in range(1, 13))
THIRTEEN = TWELVE + ((13, 0),)
NUMBERS = tuple(range(-30, 31)) + (FAR, -FAR, 10 ** 60 - 1, 1 - 10 ** 60)


def met_look(clocks):
    """The clock that rings just where all do, by a look through their round."""
    step = round_looked(clocks)
    together = [number for number in range(step) if all(rung(clock, number) for clock in clocks)]
    return (step, together[0]) if together else None


class ClockGood(unittest.TestCase):
    def test_whatever(self):
        for place, thing in enumerate(whatever()):
            self.assertIs(clock_good(thing), is_clock(thing), place)

    def test_edges(self):
        good = [(1, 0), (2, 1), (1000, 0), (1000, 999), (7, 6)]
        bad = [(0, 0), (1, 1), (1, -1), (1000, 1000), (1001, 0), (1001, 1000), (7, 7), (7, -1), (-1, 0), (-3, -4),
               (True, 0), (True, False), (1, False), (2, True), (5, LONG), (LONG, 5), (5, -LONG), (-LONG, 0),
               [2, 0], (2,), (2, 0, 0), ("2", "0"), (2, "0"), (2, None), ((2, 0),), {2: 0}, "20", 2, None, True]
        for thing in good:
            self.assertIs(clock_good(thing), True)
        for thing in bad:
            self.assertIs(clock_good(thing), False)

    def test_all_small_pairs(self):
        for step, rest in itertools.product(range(-2, 9), range(-2, 9)):
            self.assertIs(clock_good((step, rest)), step >= 1 and 0 <= rest < step)


class ClocksGood(unittest.TestCase):
    def test_whatever(self):
        good = [(), ((2, 0),), ((2, 0), (2, 1))]
        for place, thing in enumerate(whatever()):
            self.assertIs(clocks_good(thing), thing in good, place)

    def test_one_thing_of_several_amiss(self):
        for place, thing in enumerate(whatever()):
            self.assertIs(clocks_good((thing,)), is_clock(thing), place)
            self.assertIs(clocks_good(((1, 0), thing)), is_clock(thing) and thing > (1, 0), place)
            self.assertIs(clocks_good((thing, (1000, 999))), is_clock(thing) and thing < (1000, 999))

    def test_how_many(self):
        self.assertIs(clocks_good(()), True)
        self.assertIs(clocks_good(TWELVE), True)
        self.assertIs(clocks_good(THIRTEEN), False)
        self.assertIs(clocks_good(GREAT), True)

    def test_order(self):
        self.assertIs(clocks_good(((2, 0), (2, 1), (3, 0))), True)
        self.assertIs(clocks_good(((2, 1), (2, 0))), False)
        self.assertIs(clocks_good(((2, 0), (2, 0))), False)
        self.assertIs(clocks_good(((3, 0), (2, 1))), False)
        self.assertIs(clocks_good(((1, 0), (3, 0), (3, 1), (3, 1))), False)
        self.assertIs(clocks_good([(2, 0), (2, 1)]), False)
        self.assertIs(clocks_good([]), False)


class ClocksOf(unittest.TestCase):
    def refused(self, things):
        with self.assertRaises(NoClocks) as caught:
            clocks_of(things)
        return caught.exception.number

    def test_any_order(self):
        for things in itertools.permutations([(2, 1), (2, 0), (3, 2), (1, 0)]):
            self.assertEqual(clocks_of(list(things)), ((1, 0), (2, 0), (2, 1), (3, 2)))
        self.assertEqual(clocks_of([]), ())
        self.assertEqual(clocks_of(list(reversed(TWELVE))), TWELVE)

    def test_no_clock(self):
        for place, thing in enumerate(whatever()):
            if not is_clock(thing):
                self.assertEqual(self.refused([thing]), 0)
                self.assertEqual(self.refused([(5, 0), (4, 0), thing, (5, 0)]), 2)
        self.assertEqual(self.refused([(1000, 0), (1001, 0)]), 1)

    def test_one_that_stands_ahead(self):
        self.assertEqual(self.refused([(2, 0), (3, 0), (2, 0)]), 2)
        self.assertEqual(self.refused([(2, 0), (2, 0), (2, 0)]), 1)
        self.assertEqual(self.refused([(1, 0), (1, False)]), 1)

    def test_the_thirteenth(self):
        self.assertEqual(self.refused(list(THIRTEEN)), 12)
        self.assertEqual(self.refused(list(reversed(THIRTEEN))), 12)
        self.assertEqual(self.refused(list(TWELVE) + [(1, 0)]), 12)
        self.assertEqual(self.refused(list(TWELVE) + [None, None]), 12)
        self.assertEqual(self.refused([(step, 0) for step in range(1, 40)]), 12)

    def test_the_first_of_several(self):
        self.assertEqual(self.refused([(2, 0), (2, 0), None] + list(THIRTEEN)), 1)
        self.assertEqual(self.refused([(2, 0), None, (2, 0)] + list(THIRTEEN)), 1)
        self.assertEqual(self.refused(list(TWELVE[:11]) + ["x", (1, 0), (2, 0)]), 11)
        self.assertEqual(self.refused(list(TWELVE[:11]) + [(1, 0), "x"]), 11)

    def test_what_is_handed_in_stays(self):
        things = [(3, 1), (2, 0), (3, 0)]
        told = clocks_of(things)
        self.assertEqual(things, [(3, 1), (2, 0), (3, 0)])
        things.clear()
        self.assertEqual(told, ((2, 0), (3, 0), (3, 1)))
        self.assertIs(type(told), tuple)
        wrong = [(3, 1), [2, 0], {"a": [1]}]
        kept = copy.deepcopy(wrong)
        self.assertEqual(self.refused(wrong), 1)
        self.assertEqual(wrong, kept)


class Rings(unittest.TestCase):
    def test_rings_at(self):
        for clocks in some_clocks(1, 60, 30, 12) + [(), GREAT, TWELVE, ((1, 0), (2, 0), (2, 1))]:
            for number in NUMBERS:
                self.assertEqual(rings_at(clocks, number), [clock for clock in clocks if rung(clock, number)])

    def test_the_list_is_the_askers_own(self):
        clocks = ((1, 0), (2, 0))
        told = rings_at(clocks, -4)
        self.assertEqual(told, [(1, 0), (2, 0)])
        told.clear()
        self.assertEqual(rings_at(clocks, -4), [(1, 0), (2, 0)])
        self.assertEqual(rings_at((), 5), [])
        self.assertEqual(clocks, ((1, 0), (2, 0)))

    def test_first_ring(self):
        for clock in all_clocks(7) + [(1000, 999)]:
            for number in NUMBERS:
                looked = number
                while not rung(clock, looked):
                    looked += 1
                self.assertEqual(first_ring(clock, number), looked)

    def test_round_of(self):
        self.assertEqual(round_of(()), 1)
        for clocks in small_clocks():
            self.assertEqual(round_of(clocks), round_looked(clocks))
        for clocks in some_clocks(2, 100, 1000, 12):
            self.assertEqual(round_of(clocks), round_great(clocks))
        self.assertEqual(round_of(GREAT), 512 * 729 * 625 * 841 * 961 * math.prod(PRIMES))

    def test_a_clock_rings_as_often_in_each_round(self):
        for clocks in small_clocks():
            many = round_of(clocks)
            for clock in clocks:
                for number in (-17, 0, 5):
                    rings = [at for at in range(number, number + many) if rings_at((clock,), at)]
                    self.assertEqual(len(rings), many // clock[0])


class Meets(unittest.TestCase):
    def test_meet_of_and_inside_of_by_a_look(self):
        for one, other in itertools.product(all_clocks(10), repeat=2):
            self.assertEqual(meet_of(one, other), met_look((one, other)))
            many = round_looked((one, other))
            inside = all(rung(other, number) for number in range(many) if rung(one, number))
            self.assertIs(inside_of(one, other), inside)
            if inside:
                self.assertEqual(meet_of(one, other), one)

    def test_never_together(self):
        self.assertIsNone(meet_of((2, 0), (2, 1)))
        self.assertIsNone(meet_of((4, 1), (6, 2)))
        self.assertIsNone(met_all(((2, 0), (2, 1), (3, 0))))
        self.assertIsNone(met_all(((4, 1), (6, 2), (35, 0))))

    def test_a_clock_meets_itself_in_itself(self):
        for clock in [(1, 0), (2, 1), (1000, 999)]:
            self.assertEqual(meet_of(clock, clock), clock)
            self.assertIs(inside_of(clock, clock), True)

    def test_met_all(self):
        self.assertEqual(met_all(()), (1, 0))
        for clocks in small_clocks():
            self.assertEqual(met_all(clocks), met_look(clocks))
        for clocks in some_clocks(3, 100, 20, 3):
            self.assertEqual(met_all(clocks), met_look(clocks))

    def test_great_ones(self):
        step, rest = met_all(GREAT)
        self.assertEqual(step, round_great(GREAT))
        self.assertTrue(0 <= rest < step)
        for clock in GREAT:
            self.assertEqual(rest % clock[0], clock[1])

    def test_told_clocks_may_be_handed_in_again(self):
        one = met_all(GREAT[:6])
        other = met_all(GREAT[6:])
        whole = met_all(GREAT)
        self.assertGreater(one[0], 1000)
        self.assertEqual(meet_of(one, other), whole)
        self.assertEqual(meet_of(other, one), whole)
        self.assertEqual(meet_of(whole, one), whole)
        self.assertEqual(met_all(tuple(sorted((one, other, (2, 0))))), met_all(((2, 0),) + GREAT))
        self.assertIs(inside_of(whole, one), True)
        self.assertIs(inside_of(one, whole), False)
        self.assertIs(inside_of(whole, (whole[0], whole[1] - 1)), False)
        self.assertIs(clock_good(whole), False)
        self.assertIs(clocks_good((whole,)), False)
        self.assertEqual(rings_at((one, whole), whole[1] - whole[0]), [one, whole])
        self.assertEqual(rings_at((one, whole), one[1] - one[0]), [one])
        self.assertEqual(first_ring(whole, whole[1] + 1), whole[1] + whole[0])
        self.assertEqual(first_ring(whole, -FAR) % whole[0], whole[1])
        self.assertEqual(round_of((one, other)), whole[0])

    def test_steps_of_hundreds_of_figures(self):
        primes = [step for step in range(2, 1001) if all(step % part for part in range(2, step))]
        clock = (1, 0)
        for step in primes:
            clock = meet_of(clock, (step, step - 1))
        self.assertEqual(clock, (math.prod(primes), math.prod(primes) - 1))
        self.assertEqual(meet_of(clock, clock), clock)
        half = met_all(tuple((step, step - 1) for step in primes[:80]))
        self.assertEqual(meet_of(half, met_all(tuple((step, step - 1) for step in primes[80:]))), clock)


if __name__ == "__main__":
    unittest.main()
