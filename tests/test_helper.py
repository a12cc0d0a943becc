import math
import unittest

from coverclocks.helper import common_divisor, common_multiple, inverse_of, least_factor, lowest_terms


class Helper(unittest.TestCase):
    def test_least_factor(self):
        for number in range(2, 400):
            looked = [factor for factor in range(2, number + 1) if number % factor == 0]
            self.assertEqual(least_factor(number), looked[0])

    def test_divisors_and_multiples(self):
        for one in range(1, 40):
            for other in range(1, 40):
                self.assertEqual(common_divisor(one, other), math.gcd(one, other))
                self.assertEqual(common_multiple([one, other, 6]), math.lcm(one, other, 6))
                self.assertEqual(lowest_terms(one * 6, other * 6), lowest_terms(one, other))
        self.assertEqual(common_multiple([]), 1)
        self.assertEqual(lowest_terms(0, 9), (0, 1))

    def test_inverse_of(self):
        self.assertEqual(inverse_of(5, 1), 0)
        for bound in range(2, 60):
            for number in range(1, 2 * bound):
                if math.gcd(number, bound) == 1:
                    self.assertEqual(number * inverse_of(number, bound) % bound, 1)


if __name__ == "__main__":
    unittest.main()
