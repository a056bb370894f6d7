"""Fractions and rows of them, of which all else is worked out."""

import random
import unittest
from fractions import Fraction

from chargeturns.elimination import null_rows, plain_rows, solution
from chargeturns.ratios import (
    fraction_text, is_above_nought, is_fraction, is_integer, minus, plus, ratio, read_fraction, times, total,
)
from tests.making import NO_FRACTIONS, fractions_of, is_told_fraction, pair, row, some_fraction


class Ratios(unittest.TestCase):
    def test_integers_are_no_bools(self):
        self.assertTrue(all(is_integer(value) for value in (0, 1, -1, 10 ** 400)))
        self.assertFalse(any(is_integer(value) for value in (True, False, None, "1", (1,), 1.0)))

    def test_what_is_no_fraction(self):
        for value in NO_FRACTIONS:
            self.assertIs(is_fraction(value), False)
            self.assertIs(is_above_nought(value), False)

    def test_what_is_one(self):
        for value in ((0, 1), (1, 1), (-7, 3), (10 ** 300, 3)):
            self.assertIs(is_fraction(value), True)
            self.assertIs(is_above_nought(value), value[0] > 0)

    def test_arithmetic(self):
        dice = random.Random(1)
        for _ in range(300):
            one, other = some_fraction(dice), some_fraction(dice)
            a, b = pair(one), pair(other)
            self.assertEqual(plus(a, b), pair(one + other))
            self.assertEqual(minus(a, b), pair(one - other))
            self.assertEqual(times(a, b), pair(one * other))
            self.assertEqual(total([a, b, a]), pair(one + other + one))
            if other:
                top, bottom = one.numerator * other.denominator, one.denominator * other.numerator
                self.assertEqual(ratio(top, bottom), pair(one / other))
        self.assertEqual(total([]), (0, 1))

    def test_texts(self):
        dice = random.Random(2)
        for _ in range(300):
            number = some_fraction(dice)
            self.assertEqual(fraction_text(pair(number)), str(number))
            self.assertEqual(read_fraction(str(number)), pair(number))


class Rows(unittest.TestCase):
    def some_rows(self, dice):
        width = dice.randint(1, 6)
        rows = [[some_fraction(dice) * dice.randint(0, 1) for _ in range(width)] for _ in range(dice.randint(1, 5))]
        # A sum of multiples of others adds nothing to the space.
        rows.append([a * some_fraction(dice) + b for a, b in zip(rows[0], rows[-1])] if dice.random() < 0.3 else rows[0])
        return rows

    def test_plain_list(self):
        for seed in range(300):
            rows = self.some_rows(random.Random(seed))
            told = plain_rows([row(*numbers) for numbers in rows])
            self.assertIs(type(told), tuple)
            plain = [fractions_of(numbers) for numbers in told]
            self.assertTrue(all(is_told_fraction(number) for numbers in told for number in numbers))
            firsts = [[number != 0 for number in numbers].index(True) for numbers in plain]
            self.assertEqual(firsts, sorted(set(firsts)))
            for at, numbers in zip(firsts, plain):
                self.assertEqual([other[at] for other in plain], [other is numbers for other in plain])
            for numbers in rows:
                made = [sum(numbers[at] * other[k] for at, other in zip(firsts, plain)) for k in range(len(numbers))]
                self.assertEqual(made, numbers)
            self.assertEqual(plain_rows(told), told)
            self.assertLessEqual(len(told), len(rows) - 1 if rows[-1] == rows[0] else len(rows))

    def test_no_rows(self):
        self.assertEqual(plain_rows([]), ())
        self.assertEqual(plain_rows([row(0, 0), row(0, 0)]), ())

    def test_solution(self):
        for seed in range(300):
            dice = random.Random(seed)
            rows = self.some_rows(dice)
            many = len(rows[0])
            numbers = [some_fraction(dice) for _ in range(many)]
            sums = [sum(a * b for a, b in zip(left, numbers)) for left in rows]
            found = solution([row(*left, right) for left, right in zip(rows, sums)], many)
            self.assertEqual(len(found), many)
            told = fractions_of(found)
            self.assertEqual([sum(a * b for a, b in zip(left, told)) for left in rows], sums)
        self.assertEqual(solution([], 0), [])
        self.assertEqual(solution([], 2), [(0, 1), (0, 1)])
        self.assertEqual([Fraction(*number) for number in solution([row(2, 3)], 1)], [Fraction(3, 2)])

    def test_no_solution(self):
        self.assertIsNone(solution([row(1, 1), row(1, 2)], 1))
        self.assertIsNone(solution([row(0, 0, 3)], 2))
        self.assertIsNone(solution([row(1, 1, 1), row(2, -1, 0), row(3, 0, "1/2")], 2))
        self.assertEqual(solution([row(0, 0, 0)], 2), [(0, 1), (0, 1)])

    def test_null_rows(self):
        for seed in range(300):
            rows = self.some_rows(random.Random(seed))
            many = len(rows[0])
            told = null_rows([row(*numbers) for numbers in rows], many)
            self.assertEqual(plain_rows(told), told)
            for numbers in told:
                self.assertTrue(all(is_told_fraction(number) for number in numbers))
                products = [sum(a * b for a, b in zip(left, fractions_of(numbers))) for left in rows]
                self.assertEqual(products, [0] * len(rows))
            self.assertEqual(len(told), many - len(plain_rows([row(*numbers) for numbers in rows])))
        self.assertEqual(null_rows([], 2), (row(1, 0), row(0, 1)))
        self.assertEqual(null_rows([row(1, 2), row(0, 3)], 2), ())


if __name__ == "__main__":
    unittest.main()
