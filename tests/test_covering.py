import itertools
import math
import random
import unittest

from coverclocks.clocks import met_all
from coverclocks.covering import (
    cover_paper, cover_paper_good, covers, first_missed, first_within, miss_good, missed_of,
)
from coverclocks.errors import TooGreat
from tests.helper import (
    ABOVE, FAR, GREAT, HALVED, HALVES, JUST, LONG, UNLIKE, all_clocks, count, deep, is_whole, round_great,
    round_looked, rung, small_clocks, some_clocks, whatever,
)


def missed_look(clocks):
    return [number for number in range(round_great(clocks)) if count(clocks, number) == 0]


def leaf_of(paper, number):
    """The place of the leaf that the number is led to, split by split."""
    step = 1
    rest = 0
    while paper[0] == "split":
        turn = (number - rest) // step % paper[1]
        rest += step * turn
        step *= paper[1]
        paper = paper[2][turn]
    return paper[1]


def depths_of(paper, step=1):
    if paper[0] == "leaf":
        return [step]
    return [found for part in paper[2] for found in depths_of(part, step * paper[1])]


def form_look(clocks, paper):
    if type(paper) is not tuple or len(paper) not in (2, 3):
        return False
    if paper[0] == "leaf":
        return len(paper) == 2 and is_whole(paper[1]) and paper[1] in range(len(clocks))
    if paper[0] != "split" or len(paper) != 3 or not is_whole(paper[1]) or type(paper[2]) is not tuple:
        return False
    return paper[1] >= 2 and paper[1] == len(paper[2]) and all(form_look(clocks, part) for part in paper[2])


def paper_look(clocks, paper):
    """By leading each number of a round of clocks and parts to its leaf."""
    if not form_look(clocks, paper):
        return False
    many = math.lcm(round_great(clocks), *depths_of(paper))
    return all(rung(clocks[leaf_of(paper, number)], number) for number in range(many))


def grown(source, clocks, step, rest, levels):
    """A paper of some splits whose leaves are mostly good."""
    fit = [place for place, clock in enumerate(clocks) if step % clock[0] == 0 and rung(clock, rest)]
    if fit and (levels == 0 or source.random() < 0.7):
        return ("leaf", source.choice(fit))
    if levels == 0:
        return ("leaf", source.randrange(len(clocks)))
    k = source.choice((2, 2, 3, 4))
    return ("split", k, tuple(grown(source, clocks, step * k, rest + step * turn, levels - 1) for turn in range(k)))


class Covering(unittest.TestCase):
    def check(self, clocks):
        missed = missed_look(clocks)
        self.assertEqual(missed_of(clocks), missed)
        self.assertIs(covers(clocks), not missed)
        self.assertEqual(first_missed(clocks), missed[0] if missed else None)

    def test_small(self):
        for clocks in small_clocks():
            self.check(clocks)

    def test_greater(self):
        for clocks in some_clocks(4, 60, 60, 12, 2000) + [UNLIKE, HALVES, ((1, 0),), ((1, 0), (1000, 3))]:
            self.check(clocks)

    def test_none(self):
        self.assertIs(covers(()), False)
        self.assertEqual(first_missed(()), 0)
        self.assertEqual(missed_of(()), [0])
        self.assertIsNone(cover_paper(()))

    def test_known(self):
        self.assertIs(covers(UNLIKE), True)
        self.assertIsNone(first_missed(UNLIKE))
        self.assertEqual(missed_of(UNLIKE), [])
        self.assertEqual(missed_of(((2, 0), (3, 0))), [1, 5])

    def test_the_list_is_the_askers_own(self):
        missed_of(((2, 0), (3, 0))).clear()
        self.assertEqual(missed_of(((2, 0), (3, 0))), [1, 5])

    def test_a_round_of_just_so_much(self):
        self.assertEqual(round_great(JUST), 10000)
        self.check(JUST)
        self.assertIsNone(cover_paper(JUST))
        full = tuple(sorted(HALVES + JUST))
        self.check(full)
        self.assertTrue(cover_paper_good(full, cover_paper(full)))

    def test_too_great(self):
        self.assertEqual(round_great(ABOVE), 10001)
        for clocks in (ABOVE, ((1, 0),) + ABOVE, HALVES + ABOVE, GREAT):
            for ask in (covers, first_missed, missed_of, cover_paper):
                with self.assertRaises(TooGreat) as caught:
                    ask(clocks)
                self.assertEqual((caught.exception.many, caught.exception.most), (round_great(clocks), 10000))

    def test_what_is_missed_comes_again(self):
        for clocks in some_clocks(5, 40, 12, 4, 500):
            many = round_great(clocks)
            for number in missed_of(clocks):
                for turn in (-10 ** 30, -2, -1, 1, 7):
                    self.assertIs(miss_good(clocks, number + turn * many), True)


class MissGood(unittest.TestCase):
    def test_whatever(self):
        for clocks in [(), HALVES, ((2, 0),), ((2, 1), (3, 0)), UNLIKE, GREAT, ((7, 0), (11, 5))]:
            for place, thing in enumerate(whatever()):
                good = is_whole(thing) and count(clocks, thing) == 0
                self.assertIs(miss_good(clocks, thing), good, place)

    def test_numbers(self):
        for clocks in some_clocks(6, 40, 20, 6) + [GREAT]:
            for number in list(range(-40, 41)) + [LONG, -LONG]:
                self.assertIs(miss_good(clocks, number), count(clocks, number) == 0)

    def test_great_rounds(self):
        self.assertGreater(round_great(GREAT), 10 ** 30)
        rest = met_all(GREAT)[1]
        self.assertIs(miss_good(GREAT, rest), False)
        self.assertIs(miss_good(GREAT, GREAT[0][1] + GREAT[0][0] * FAR), False)
        self.assertIs(miss_good(GREAT, 0), True)
        self.assertIs(miss_good(GREAT, True), False)


class CoverPaperGood(unittest.TestCase):
    halves = ("split", 2, (("leaf", 0), ("leaf", 1)))
    quarters = ((2, 1), (4, 0), (8, 2), (8, 6))
    quarters_paper = ("split", 2, (("split", 2, (("leaf", 1), ("split", 2, (("leaf", 2), ("leaf", 3))))), ("leaf", 0)))

    def good(self, clocks, paper):
        self.assertIs(cover_paper_good(clocks, paper), True, repr(paper)[:200])

    def bad(self, clocks, paper):
        self.assertIs(cover_paper_good(clocks, paper), False, repr(paper)[:200])

    def test_whatever(self):
        for clocks in [(), HALVES, ((1, 0),), ((2, 0),), GREAT]:
            # The last one, a long chain of splits, is too wide for a look; test_fifty_deep has it.
            for place, thing in enumerate(whatever()[:-1]):
                self.assertIs(cover_paper_good(clocks, thing), paper_look(clocks, thing), place)

    def test_some_good_ones(self):
        self.good(((1, 0),), ("leaf", 0))
        self.good(HALVES, self.halves)
        self.good(self.quarters, self.quarters_paper)
        self.good(((1, 0), (2, 1)), ("split", 2, (("leaf", 0), ("leaf", 1))))
        self.good(HALVES, ("split", 4, tuple(("leaf", turn % 2) for turn in range(4))))
        self.good(HALVES, ("split", 2, (("split", 3, (("leaf", 0),) * 3), ("leaf", 1))))
        self.good(tuple((3, rest) for rest in range(3)), ("split", 3, (("leaf", 0), ("leaf", 1), ("leaf", 2))))
        self.good(((1, 0),), deep(lambda paper: ("split", 2, (paper, ("leaf", 0))), ("leaf", 0), 24))
        self.good(((1, 0),), ("split", 1000, (("leaf", 0),) * 1000))

    def test_parts_exchanged(self):
        self.bad(HALVES, ("split", 2, (("leaf", 1), ("leaf", 0))))
        inner = self.quarters_paper[2]
        self.bad(self.quarters, ("split", 2, (inner[1], inner[0])))
        self.bad(self.quarters, ("split", 2, (("split", 2, (inner[0][2][1], inner[0][2][0])), inner[1])))

    def test_more_or_fewer_papers(self):
        self.bad(HALVES, ("split", 2, (("leaf", 0),)))
        self.bad(HALVES, ("split", 2, (("leaf", 0), ("leaf", 1), ("leaf", 0))))
        self.bad(HALVES, ("split", 3, (("leaf", 0), ("leaf", 1))))
        self.bad(((1, 0),), ("split", 2, (("leaf", 0),)))
        self.bad(((1, 0),), ("split", 2, (("leaf", 0),) * 3))
        self.bad(((1, 0),), ("split", 2, ()))
        self.bad(((1, 0),), ("split", 2))
        self.bad(((1, 0),), ("split", 2, (("leaf", 0),) * 2, ()))
        self.bad(((1, 0),), ("leaf", 0, 0))
        self.bad(((1, 0),), ("leaf",))

    def test_places(self):
        for place in (True, False, -1, -2, 2, LONG, -LONG, None, "0", (0,), [0]):
            self.bad(((1, 0), (2, 0)), ("leaf", place))
        self.bad(((1, 0), (2, 0)), ("leaf", 1))
        self.good(((1, 0), (2, 0)), ("leaf", 0))
        for place in (1, 2, True, False, -2, LONG):
            self.bad(HALVES, ("split", 2, (("leaf", place), ("leaf", 1))))

    def test_other_k(self):
        for k in (1, 0, -1, -2, True, False, LONG, -LONG, None, "2", (2,)):
            self.bad(((1, 0),), ("split", k, (("leaf", 0), ("leaf", 0))))
            self.bad(((1, 0),), ("split", k, (("leaf", 0),)))
            self.bad(((1, 0),), ("split", k, ()))
        self.bad(((1, 0),), ("split", 1, (("leaf", 0),)))
        self.bad(((1, 0),), ("split", True, (("leaf", 0),)))

    def test_lists_for_tuples_and_other_words(self):
        self.bad(((1, 0),), ["leaf", 0])
        self.bad(HALVES, ["split", 2, (("leaf", 0), ("leaf", 1))])
        self.bad(HALVES, ("split", 2, [("leaf", 0), ("leaf", 1)]))
        self.bad(HALVES, ("split", 2, (["leaf", 0], ("leaf", 1))))
        self.bad(HALVES, ("split", 2, {0: ("leaf", 0), 1: ("leaf", 1)}))
        for word in ("Leaf", "leaf ", "", "split", None, 0, True, [], ("leaf",)):
            self.bad(((1, 0),), (word, 0))
        for word in ("Split", "leaf", "", None, 0, True, [], ("split",)):
            self.bad(HALVES, (word, 2, (("leaf", 0), ("leaf", 1))))

    def test_fifty_deep(self):
        chain = deep(lambda paper: ("split", 2, (("leaf", 0), paper)), ("leaf", 0), 24)
        self.good(((1, 0),), chain)
        self.bad(((2, 0),), chain)
        self.bad(((1, 0),), deep(lambda paper: ("split", 2, (("leaf", 0), paper)), ("leaf", 1), 24))
        self.bad(((1, 0),), deep(lambda paper: ("split", 2, (("leaf", 0), paper)), None, 24))
        self.bad(((1, 0),), deep(lambda paper: (paper,), ("leaf", 0)))

    def test_a_great_round(self):
        clocks = HALVES + GREAT
        self.good(clocks, self.halves)
        self.bad(clocks, ("split", 2, (("leaf", 0), ("leaf", 5))))
        self.bad(GREAT, self.halves)

    def test_against_a_look(self):
        source = random.Random(7)
        found = {True: 0, False: 0}
        for turn in range(1500):
            clocks = tuple(sorted(source.sample(all_clocks(4), source.randint(1, 6))))
            paper = grown(source, clocks, 1, 0, 3)
            good = paper_look(clocks, paper)
            found[good] += 1
            self.assertIs(cover_paper_good(clocks, paper), good, repr((clocks, paper)))
        self.assertGreater(min(found.values()), 100)


class CoverPaper(unittest.TestCase):
    def check(self, clocks):
        paper = cover_paper(clocks)
        if missed_look(clocks):
            self.assertIsNone(paper)
        else:
            self.assertTrue(paper_look(clocks, paper))
            self.assertIs(cover_paper_good(clocks, paper), True)

    def test_small(self):
        for clocks in small_clocks():
            self.check(clocks)

    def test_greater(self):
        odd = tuple((9, rest) for rest in range(9))
        for clocks in some_clocks(8, 40, 12, 12, 3000) + [UNLIKE, odd, tuple((11, rest) for rest in range(11))]:
            self.check(clocks)
            self.check(tuple(sorted(set(clocks + HALVES))))

    def test_a_long_chain(self):
        self.check(HALVED)
        self.assertRaises(TooGreat, cover_paper, HALVED + ((1000, 0),))


class FirstWithin(unittest.TestCase):
    def look(self, clocks, clock):
        for number in range(round_looked(clocks + (clock,))):
            if rung(clock, number) and count(clocks, number) == 0:
                return number
        return None

    def test_small(self):
        for clocks in itertools.islice(small_clocks(), 0, None, 3):
            for clock in all_clocks(5):
                self.assertEqual(first_within(clocks, clock), self.look(clocks, clock))

    def test_greater(self):
        for clocks in some_clocks(9, 30, 20, 8, 900):
            for clock in [(1, 0), (2, 1), (10, 7), (9, 8)]:
                self.assertEqual(first_within(clocks, clock), self.look(clocks, clock))

    def test_none_and_one_of_the_clocks(self):
        for clock in all_clocks(6) + [(1000, 999)]:
            self.assertEqual(first_within((), clock), clock[1])
            self.assertIsNone(first_within((clock,), clock))
        self.assertIsNone(first_within(UNLIKE, (7, 3)))
        self.assertEqual(first_within(((2, 0), (3, 1)), (4, 1)), 5)

    def test_far_rings(self):
        self.assertEqual(first_within(((2, 1), (3, 0), (5, 0)), (5, 3)), 8)
        self.assertIsNone(first_within(((4, 1), (4, 3)), (2, 1)))
        self.assertEqual(first_within(JUST, (16, 3)), None)

    def test_too_great(self):
        self.assertEqual(first_within(((16, 3),), (625, 600)), 600)
        self.assertEqual(first_within((), met_all(((99, 98), (100, 0)))), 9800)
        for clocks, clock in [(((73, 0),), (137, 1)), ((), met_all(ABOVE)), (ABOVE, (1, 0)), (GREAT, GREAT[0])]:
            with self.assertRaises(TooGreat) as caught:
                first_within(clocks, clock)
            whole = round_great(clocks + (clock,))
            self.assertEqual((caught.exception.many, caught.exception.most), (whole, 10000))

    def test_what_is_covered_within_adds_nothing(self):
        for clocks in itertools.islice(small_clocks(), 0, None, 5):
            for clock in all_clocks(4):
                if first_within(clocks, clock) is None:
                    for more in [(), ((3, 1),), HALVES, ((4, 3), (6, 1))]:
                        fewer = tuple(sorted(set(clocks + more)))
                        whole = tuple(sorted(set(clocks + more + (clock,))))
                        self.assertIs(covers(fewer), covers(whole))


if __name__ == "__main__":
    unittest.main()
