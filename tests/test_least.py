import itertools
import math
import random
import unittest

from coverclocks.errors import NoPlace, TooGreat
from coverclocks.least import (
    fewest_cover, idle_of, least_covers, least_good, lone_at, needs_good, needs_paper,
)
from tests.helper import (
    ABOVE, BOX, FAR, GREAT, HALVED, HALVES, JUST, LONG, TWELFTHS, UNLIKE, all_clocks, count, exact_look, is_least,
    is_place, is_whole, least_look, lones_look, places_rung, refusal, round_great, rung, small_clocks, some_clocks,
    split_drawn, whatever,
)

# Fifteen exact clocks, one place each: more than the document's twelve.
FIFTEEN = tuple((15, rest) for rest in range(15))


def least_good_look(clocks, thing):
    if type(thing) is not tuple or not all(is_place(clocks, place) for place in thing):
        return False
    if list(thing) != sorted(set(thing)):
        return False
    return is_least(places_rung(clocks), thing)


def needs_good_look(clocks, thing):
    if type(thing) is not tuple or len(thing) != len(clocks) or not all(is_whole(number) for number in thing):
        return False
    return all(rung(clock, number) and count(clocks, number) == 1 for clock, number in zip(clocks, thing))


def great(clocks):
    return (TooGreat, {"many": round_great(clocks), "most": 10000})


class Idle(unittest.TestCase):
    def check(self, clocks):
        lones = lones_look(clocks)
        self.assertEqual(idle_of(clocks), [place for place, lone in enumerate(lones) if lone is None])
        self.assertEqual([lone_at(clocks, place) for place in range(len(clocks))], lones)
        self.assertEqual(needs_paper(clocks), None if None in lones else tuple(lones))

    def test_small(self):
        for clocks in small_clocks():
            self.check(clocks)

    def test_greater(self):
        for clocks in some_clocks(31, 60, 60, 12, 2000) + [UNLIKE, HALVED, BOX, TWELFTHS, ((1, 0), (1000, 3))]:
            self.check(clocks)

    def test_known(self):
        self.assertEqual(idle_of(UNLIKE), [])
        self.assertEqual(needs_paper(UNLIKE), (2, 3, 1, 11, 7))
        self.assertEqual(idle_of(((1, 0), (2, 1), (3, 2))), [1, 2])
        self.assertEqual(idle_of(((2, 0), (4, 0), (4, 1), (4, 2))), [0, 1, 3])
        self.assertIsNone(lone_at(((2, 0), (4, 0), (4, 1), (4, 2)), 0))
        self.assertEqual(lone_at(((2, 0), (4, 0), (4, 1), (4, 2)), 2), 1)
        self.assertEqual(lone_at(((2, 0), (3, 0)), 1), 3)

    def test_no_clocks(self):
        self.assertEqual(idle_of(()), [])
        self.assertEqual(needs_paper(()), ())
        for place, thing in enumerate(whatever()):
            self.assertEqual(refusal(lone_at, (), thing), (NoPlace, {}), place)

    def test_whatever_for_the_place(self):
        more = [3, 12, 10 ** 99, -10 ** 99, 10 ** 59, "1", [1], (1,), {1: 1}, {0: 0}, True, False, None, -3]
        for clocks in (HALVES, ((2, 0), (3, 0), (4, 1)), ABOVE, GREAT):
            for place, thing in enumerate(whatever() + more):
                if not is_place(clocks, thing):
                    self.assertEqual(refusal(lone_at, clocks, thing), (NoPlace, {}), place)

    def test_the_list_is_the_askers_own(self):
        clocks = ((1, 0), (2, 1), (3, 2))
        idle_of(clocks).clear()
        told = idle_of(clocks)
        told.append(7)
        self.assertEqual(idle_of(clocks), [1, 2])
        self.assertIs(type(told), list)

    def test_a_round_of_just_so_much(self):
        self.assertEqual(round_great(JUST), 10000)
        self.check(JUST)
        self.check(((2, 1),) + JUST)

    def test_too_great(self):
        self.assertEqual(round_great(ABOVE), 10001)
        for clocks in (ABOVE, ((1, 0),) + ABOVE, HALVES + ABOVE, GREAT):
            for ask in (idle_of, needs_paper, least_covers, fewest_cover):
                self.assertEqual(refusal(ask, clocks), great(clocks))
            for place in (0, len(clocks) - 1):
                self.assertEqual(refusal(lone_at, clocks, place), great(clocks))

    def test_greater_steps_are_taken(self):
        self.check(((2, 0), (3, 1), (2000, 7)))
        self.check(((10000, 9999),))


class Needs(unittest.TestCase):
    def both(self, clocks, thing):
        good = needs_good_look(clocks, thing)
        self.assertIs(needs_good(clocks, thing), good)
        return good

    def test_whatever(self):
        for clocks in [(), ((1, 0),), ((2, 0),), HALVES, ((2, 0), (3, 1)), ((2, 0), (3, 1), (5, 2)), GREAT]:
            for thing in whatever():
                self.both(clocks, thing)

    def test_no_clocks(self):
        self.assertIs(needs_good((), ()), True)
        for thing in ((0,), [], None, {}, "", 0, False, ((),)):
            self.assertIs(needs_good((), thing), False)

    def test_told_papers_bent(self):
        source = random.Random(32)
        met = 0
        for clocks in list(small_clocks())[1::7] + some_clocks(33, 40, 30, 6, 2000) + [UNLIKE, HALVED]:
            paper = needs_paper(clocks)
            if not paper:
                continue
            met += 1
            many = round_great(clocks)
            self.assertTrue(self.both(clocks, paper))
            self.assertTrue(self.both(clocks, tuple(number + many for number in paper)))
            self.assertTrue(self.both(clocks, tuple(number - many * 10 ** 90 for number in paper)))
            for bent in (list(paper), paper + paper[:1], paper[1:], (paper,), paper + (None,), str(paper), {0: paper},
                         tuple(str(number) for number in paper)):
                self.assertFalse(self.both(clocks, bent))
            for turn in range(6):
                place = source.randrange(len(paper))
                for other in (source.randrange(many), -1 - paper[place], None, True, False, [], LONG, [paper[place]]):
                    self.both(clocks, paper[:place] + (other,) + paper[place + 1:])
            self.both(clocks, tuple(reversed(paper)))
        self.assertGreater(met, 40)

    def test_a_truth_in_its_stead(self):
        self.assertIs(needs_good(HALVES, (0, 1)), True)
        self.assertIs(needs_good(HALVES, (0, True)), False)
        self.assertIs(needs_good(HALVES, (False, 1)), False)
        self.assertIs(needs_good(HALVES, (1, 0)), False)

    def test_a_round_of_thirty_figures(self):
        self.assertGreater(round_great(GREAT), 10 ** 30)
        paper = []
        for clock in GREAT:
            number = clock[1] + clock[0] * FAR
            while count(GREAT, number) > 1:
                number += clock[0]
            paper.append(number)
        self.assertIs(needs_good(GREAT, tuple(paper)), True)
        self.assertIs(needs_good(GREAT, tuple(number - round_great(GREAT) for number in paper)), True)
        self.assertIs(needs_good(GREAT, tuple(paper[:-1])), False)
        self.assertIs(needs_good(GREAT, tuple(paper[:-1] + [paper[-1] + 1])), False)
        # A number at which the first and the second both ring shows of neither that it is needed.
        steps = (GREAT[0][0], GREAT[1][0])
        turns = (GREAT[1][1] - GREAT[0][1]) * pow(steps[0], -1, steps[1])
        shared = GREAT[0][1] + steps[0] * turns
        self.assertGreaterEqual(count(GREAT, shared), 2)
        self.assertIs(needs_good(GREAT, tuple([shared] + paper[1:])), False)


class LeastCovers(unittest.TestCase):
    def check(self, clocks):
        least = least_look(clocks)
        self.assertEqual(least_covers(clocks), least)
        fewest = sorted(least, key=lambda places: (len(places), places))
        self.assertEqual(fewest_cover(clocks), fewest[0] if fewest else None)
        return least

    def test_small(self):
        for clocks in small_clocks():
            self.check(clocks)

    def test_greater(self):
        some = some_clocks(34, 60, 8, 11, 900) + some_clocks(35, 20, 6, 12, 60)
        self.assertGreater(max(len(clocks) for clocks in some), 8)
        self.assertGreater(sum(1 for clocks in some if self.check(clocks)), 5)

    def test_eight_clocks_and_more(self):
        source = random.Random(36)
        for many in (8, 9, 10, 11, 12):
            for turn in range(4):
                clocks = tuple(sorted(source.sample(all_clocks(6)[1:], many)))
                self.check(clocks)
            self.check(tuple(sorted(HALVES + tuple(source.sample(all_clocks(8)[3:], many - 2)))))

    def test_known(self):
        self.assertEqual(least_covers(((1, 0), (2, 0), (2, 1))), [(0,), (1, 2)])
        self.assertEqual(fewest_cover(((1, 0), (2, 0), (2, 1))), (0,))
        self.assertEqual(least_covers(UNLIKE), [(0, 1, 2, 3, 4)])
        clocks = ((2, 0), (2, 1), (3, 0), (3, 1), (3, 2))
        self.assertEqual(least_covers(clocks), [(0, 1), (2, 3, 4)])
        self.assertEqual(fewest_cover(clocks), (0, 1))

    def test_the_first_of_the_fewest(self):
        clocks = ((2, 0), (2, 1), (4, 0), (4, 1), (4, 2), (4, 3))
        self.assertEqual(least_covers(clocks), [(0, 1), (0, 3, 5), (1, 2, 4), (2, 3, 4, 5)])
        self.assertEqual(fewest_cover(clocks), (0, 1))
        self.assertEqual(fewest_cover(clocks[1:]), (0, 1, 3))
        clocks = ((2, 0), (3, 0), (3, 1), (3, 2), (4, 1), (4, 3))
        self.assertEqual(least_covers(clocks), [(0, 4, 5), (1, 2, 3)])
        self.assertEqual(fewest_cover(clocks), (0, 4, 5))
        # A longer one comes first as tuples compare, a shorter one is told.
        clocks = ((3, 0), (4, 0), (4, 1), (4, 2), (4, 3), (6, 1), (6, 2), (6, 4), (6, 5))
        self.assertEqual(self.check(clocks)[0], (0, 1, 3, 5, 8))
        self.assertEqual(fewest_cover(clocks), (1, 2, 3, 4))

    def test_none_and_no_cover(self):
        for clocks in ((), ((2, 0),), ((2, 0), (3, 0)), ((2, 0), (4, 1)), JUST):
            self.assertEqual(least_covers(clocks), [])
            self.assertIsNone(fewest_cover(clocks))

    def test_twelve_that_are_exact(self):
        source = random.Random(37)
        drawn = [split_drawn(source, 12, 200) for turn in range(20)]
        for clocks in drawn + [TWELFTHS, HALVED, BOX, FIFTEEN]:
            self.assertTrue(exact_look(clocks))
            everything = tuple(range(len(clocks)))
            self.assertEqual(least_covers(clocks), [everything])
            self.assertEqual(fewest_cover(clocks), everything)
            self.assertIs(least_good(clocks, everything), True)
            self.assertIs(least_good(clocks, everything[1:]), False)

    def test_the_greatest_round(self):
        clocks = tuple(sorted(HALVES + ((4, 0), (4, 1), (4, 2), (4, 3), (8, 7), (5, 0), (25, 3)) + JUST))
        self.assertEqual(round_great(clocks), 10000)
        self.check(clocks)

    def test_the_list_is_the_askers_own(self):
        least_covers(HALVES).clear()
        self.assertEqual(least_covers(HALVES), [(0, 1)])


class LeastGood(unittest.TestCase):
    def test_whatever(self):
        more = [(0, 1), (1, 0), (0, 0, 1), (0, 1, 1), (False, True), (0, True), (False, 1), (0, 1.0), [0, 1], (-2, -1),
                (-1, 0), (0, 2), (0, LONG), (-LONG, 0, 1), ("0", "1"), ((0,), (1,)), ((0, 1),), {0: 1}, "01", (0, None)]
        for clocks in [(), ((1, 0),), ((2, 0),), HALVES, ((1, 0), (2, 0), (2, 1)), UNLIKE, JUST]:
            for place, thing in enumerate(whatever() + more):
                self.assertIs(least_good(clocks, thing), least_good_look(clocks, thing), place)

    def test_all_sets_and_orders(self):
        for clocks in [((1, 0), (2, 0), (2, 1)), ((2, 0), (2, 1), (4, 0), (4, 2)), ((2, 0), (3, 0), (3, 1), (3, 2))]:
            for many in range(5):
                for thing in itertools.product(range(-1, 5), repeat=many):
                    self.assertIs(least_good(clocks, thing), least_good_look(clocks, thing))
                    self.assertIs(least_good(clocks, list(thing)), False)

    def test_told_ones(self):
        for clocks in list(small_clocks())[::5]:
            for places in least_covers(clocks):
                self.assertIs(least_good(clocks, places), True)
                self.assertIs(least_good(clocks, places[1:]), False)
                self.assertIs(least_good(clocks, list(places)), False)
                self.assertIs(least_good(clocks, places + places[-1:]), False)
                for place in range(len(clocks)):
                    if place not in places:
                        self.assertIs(least_good(clocks, tuple(sorted(places + (place,)))), False)

    def test_too_great_whatever_the_thing(self):
        for clocks in (ABOVE, ((1, 0),) + ABOVE, HALVES + ABOVE, GREAT):
            for thing in [(0,), (0, 1), ()] + whatever():
                self.assertEqual(refusal(least_good, clocks, thing), great(clocks))


class So(unittest.TestCase):
    def test_what_follows(self):
        covering = 0
        for clocks in list(small_clocks()) + some_clocks(38, 60, 12, 8, 900):
            least = least_covers(clocks)
            covered = all(count(clocks, number) for number in range(round_great(clocks)))
            self.assertIs(bool(least), covered)
            self.assertIs(fewest_cover(clocks) is not None, covered)
            everything = tuple(range(len(clocks)))
            self.assertIs(least_good(clocks, everything), covered and needs_paper(clocks) is not None)
            self.assertIs(everything in least, covered and needs_paper(clocks) is not None)
            if covered:
                covering += 1
                needed = set(everything) - set(idle_of(clocks))
                for places in least:
                    self.assertTrue(needed <= set(places))
            if exact_look(clocks):
                self.assertEqual(least, [everything])
        self.assertGreater(covering, 100)

    def test_thirteen_and_more_clocks(self):
        clocks = tuple(sorted(TWELFTHS + HALVES))
        self.assertEqual(least_covers(clocks)[0], (0, 1))
        self.assertEqual(least_covers(clocks), least_look(clocks))
        self.assertEqual(math.lcm(*[clock[0] for clock in clocks]), 12)


if __name__ == "__main__":
    unittest.main()
