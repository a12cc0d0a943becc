import math
import unittest

from coverclocks.errors import NoPlace, TooGreat
from coverclocks.helper import (
    common_divisor, common_multiple, doubled, first_counted, inverse_of, least_factor, lowest_terms, refuse_above,
    refuse_no_place, rising_once, rising_places_good, split_form_good,
)
from tests.helper import LONG, refusal


class Helper(unittest.TestCase):
    def test_least_factor(self):
        for number in range(2, 400):
            looked = [factor for factor in range(2, number + 1) if number % factor == 0]
            self.assertEqual(least_factor(number), looked[0])

    def test_divisors_and_multiples(self):
        for one in range(1, 40):
            for other in range(1, 40):
                self.assertEqual(common_divisor(one, other), math.gcd(one, other))
                self.assertEqual(common_multiple([one, other, 6]), math.lcm(one, other, 6))
                self.assertEqual(lowest_terms(one * 6, other * 6), lowest_terms(one, other))
        self.assertEqual(common_multiple([]), 1)
        self.assertEqual(lowest_terms(0, 9), (0, 1))

    def test_inverse_of(self):
        self.assertEqual(inverse_of(5, 1), 0)
        for bound in range(2, 60):
            for number in range(1, 2 * bound):
                if math.gcd(number, bound) == 1:
                    self.assertEqual(number * inverse_of(number, bound) % bound, 1)

    def test_doubled(self):
        self.assertEqual([doubled(times) for times in range(6)], [1, 2, 4, 8, 16, 32])

    def test_refuse_above(self):
        self.assertIsNone(refusal(refuse_above, 12, 12))
        self.assertEqual(refusal(refuse_above, 13, 12), (TooGreat, {"many": 13, "most": 12}))

    def test_refuse_no_place(self):
        for place in (0, 1, 2):
            self.assertIsNone(refusal(refuse_no_place, "abc", place))
        for thing in (3, -1, LONG, None, True, False, "0", [0], (0,), {}):
            self.assertEqual(refusal(refuse_no_place, "abc", thing), (NoPlace, {}))

    def test_rising_once(self):
        self.assertEqual(rising_once([]), ())
        self.assertEqual(rising_once([(3, 1), (2, 0), (3, 0), (2, 0)]), ((2, 0), (3, 0), (3, 1)))

    def test_rising_places_good(self):
        for thing in ((), (0,), (2,), (0, 2), (0, 1, 2)):
            self.assertIs(rising_places_good("abc", thing), True)
        for thing in ((0, 0), (1, 0), (3,), (-1, 0), (0, True), (False,), (None,), (LONG,), [0, 1], {0: 1}, "01", 0):
            self.assertIs(rising_places_good("abc", thing), False)

    def test_split_form_good(self):
        self.assertIs(split_form_good(2, (None, None)), True)
        for k, papers in ((1, (None,)), (0, ()), (True, (None,)), (2, (None,)), (2, [None, None]), (LONG, ())):
            self.assertIs(split_form_good(k, papers), False)

    def test_first_counted(self):
        counts = [1, 2, 0, 1, 2, 0]
        self.assertEqual(first_counted((1, 0), counts, 2), 1)
        self.assertEqual(first_counted((2, 0), counts, 2), 4)
        self.assertEqual(first_counted((2, 1), counts, 0), 5)
        self.assertIsNone(first_counted((3, 0), counts, 0))


if __name__ == "__main__":
    unittest.main()
