"""Fractions and rows of them, of which all else is worked out."""

import random
import unittest
from fractions import Fraction

from chargeturns.elimination import null_rows, plain_rows, solution
from chargeturns.forms import below_nought
from chargeturns.ratios import (
    fraction_text, is_above_nought, is_fraction, is_integer, is_less, is_rate, minus, plus, ratio, read_fraction, read_row,
    times, total,
)
from chargeturns.rows import put_together
from tests.gaps import is_nowhere_below_nought
from tests.making import BELOW_NOUGHT, NO_FRACTIONS, fractions_of, is_told_fraction, pair, row, some_fraction


class Ratios(unittest.TestCase):
    def test_integers_are_no_bools(self):
        self.assertTrue(all(is_integer(value) for value in (0, 1, -1, 10 ** 400)))
        self.assertFalse(any(is_integer(value) for value in (True, False, None, "1", (1,), 1.0)))

    def test_what_is_no_fraction(self):
        for value in NO_FRACTIONS:
            self.assertIs(is_fraction(value), False)
            self.assertIs(is_above_nought(value), False)

    def test_what_is_one(self):
        for value in ((0, 1), (1, 1), (-7, 3), (10 ** 300, 3)):
            self.assertIs(is_fraction(value), True)
            self.assertIs(is_above_nought(value), value[0] > 0)

    def test_arithmetic(self):
        dice = random.Random(1)
        for _ in range(300):
            one, other = some_fraction(dice), some_fraction(dice)
            a, b = pair(one), pair(other)
            self.assertEqual(plus(a, b), pair(one + other))
            self.assertEqual(minus(a, b), pair(one - other))
            self.assertEqual(times(a, b), pair(one * other))
            self.assertEqual(total([a, b, a]), pair(one + other + one))
            if other:
                top, bottom = one.numerator * other.denominator, one.denominator * other.numerator
                self.assertEqual(ratio(top, bottom), pair(one / other))
        self.assertEqual(total([]), (0, 1))

    def test_texts(self):
        dice = random.Random(2)
        for _ in range(300):
            number = some_fraction(dice)
            self.assertEqual(fraction_text(pair(number)), str(number))
            self.assertEqual(read_fraction(str(number)), pair(number))


    def test_rates(self):
        for value in NO_FRACTIONS + BELOW_NOUGHT:
            self.assertIs(is_rate(value), False)
        for value in ((0, 1), (1, 1), (7, 3), (1, 10 ** 300)):
            self.assertIs(is_rate(value), True)

    def test_which_is_less(self):
        dice = random.Random(4)
        for _ in range(300):
            one, other = some_fraction(dice), some_fraction(dice)
            self.assertIs(is_less(pair(one), pair(other)), one < other)
            self.assertIs(is_less(pair(one), pair(one)), False)

    def test_texts_of_great_numbers(self):
        for digits in (17, 18, 19, 36, 37, 400, 3999, 4300, 4301, 9000):
            for number in (10 ** digits - 1, 10 ** digits, 10 ** digits + 7, -(10 ** digits) - 10 ** 17):
                word = fraction_text((number, 1))
                self.assertEqual(read_fraction(word), (number, 1))
                self.assertEqual(read_fraction(fraction_text((1, abs(number)))), (1, abs(number)))
                if digits < 4300:
                    self.assertEqual(word, str(number))
        self.assertEqual(fraction_text((-(10 ** 5000), 1)), "-1" + "0" * 5000)
        self.assertEqual(fraction_text((10 ** 5000 + 1, 10 ** 18)), "1" + "0" * 4999 + "1/1" + "0" * 18)

    def test_rows_of_words(self):
        self.assertEqual(read_row(["1/2", "-3", "0"]), row("1/2", -3, 0))
        self.assertEqual(read_row(["7"]), row(7))
        for words in ([], [""], ["1", ""], ["x"], ["1", "2/4"], ["1/1"], ["-0", "1"]):
            self.assertIsNone(read_row(words))


class Forms(unittest.TestCase):
    def check(self, table):
        """The table's form is below 0 for what is told; if nothing is told, it is so for none."""
        told = below_nought([row(*numbers) for numbers in table])
        if told is None:
            self.assertTrue(is_nowhere_below_nought(table))
        else:
            self.assertEqual([type(number) for number in told], [int] * len(table))
            places = range(len(table))
            self.assertLess(sum(table[a][b] * told[a] * told[b] for a in places for b in places), 0)
        return told is None

    def test_by_hand(self):
        self.assertIsNone(below_nought([]))
        self.assertIsNone(below_nought([row(0)]))
        self.assertIsNone(below_nought([row(0, 0), row(0, 0)]))
        self.assertIsNone(below_nought([row(1, -1), row(-1, 1)]))
        for table in (
            [[-1]], [[0, 1], [1, 100]], [[1, 2], [2, 1]], [[0, 1], [1, 0]], [[0, -1], [-1, 0]], [[0, "1/9"], ["1/9", 99]], [[0, -7], [-7, 100]],
            [[1, 1], [1, 0]], [[1, 1, 0], [1, 1, "1/5"], [0, "1/5", 50]], [[0, 0, 0], [0, 0, 3], [0, 3, 1]],
            [[0, 2, 0], [2, -5, 0], [0, 0, 1]], [[1, 0, 0], [0, 0, 0], [0, 0, -1]], [[0, 0, 1], [0, 1, 0], [1, 0, 3]],
        ):
            self.assertFalse(self.check([[Fraction(number) for number in numbers] for numbers in table]))

    def test_over_many(self):
        answers = []
        for seed in range(600):
            dice = random.Random(seed)
            many = dice.randint(1, 4)
            rows = [[some_fraction(dice) * dice.randint(0, 1) for _ in range(many)] for _ in range(dice.randint(1, 4))]
            signs = [1 if seed % 3 else dice.choice((1, 1, -1, 0)) for _ in rows]
            # Squares of sums of numbers, added up, some perhaps taken away.
            table = [[sum(s * r[a] * r[b] for s, r in zip(signs, rows)) for b in range(many)] for a in range(many)]
            if seed % 5 == 0:
                table[0][0] = table[0][0] - Fraction(1, 50)
            answers.append(self.check(table))
        self.assertTrue(answers.count(True) > 200 and answers.count(False) > 100)


class Rows(unittest.TestCase):
    def test_put_together(self):
        self.assertEqual(put_together([2, -3, 0], [row(1, "1/2"), row("1/3", 1), row(5, 5)]), row(1, -2))
        self.assertEqual(put_together([0], [row(1, 2)]), row(0, 0))

    def some_rows(self, dice):
        width = dice.randint(1, 6)
        rows = [[some_fraction(dice) * dice.randint(0, 1) for _ in range(width)] for _ in range(dice.randint(1, 5))]
        # A sum of multiples of others adds nothing to the space.
        rows.append([a * some_fraction(dice) + b for a, b in zip(rows[0], rows[-1])] if dice.random() < 0.3 else rows[0])
        return rows

    def test_plain_list(self):
        for seed in range(300):
            rows = self.some_rows(random.Random(seed))
            told = plain_rows([row(*numbers) for numbers in rows])
            self.assertIs(type(told), tuple)
            plain = [fractions_of(numbers) for numbers in told]
            self.assertTrue(all(is_told_fraction(number) for numbers in told for number in numbers))
            firsts = [[number != 0 for number in numbers].index(True) for numbers in plain]
            self.assertEqual(firsts, sorted(set(firsts)))
            for at, numbers in zip(firsts, plain):
                self.assertEqual([other[at] for other in plain], [other is numbers for other in plain])
            for numbers in rows:
                made = [sum(numbers[at] * other[k] for at, other in zip(firsts, plain)) for k in range(len(numbers))]
                self.assertEqual(made, numbers)
            self.assertEqual(plain_rows(told), told)
            self.assertLessEqual(len(told), len(rows) - 1 if rows[-1] == rows[0] else len(rows))

    def test_no_rows(self):
        self.assertEqual(plain_rows([]), ())
        self.assertEqual(plain_rows([row(0, 0), row(0, 0)]), ())

    def test_solution(self):
        for seed in range(300):
            dice = random.Random(seed)
            rows = self.some_rows(dice)
            many = len(rows[0])
            numbers = [some_fraction(dice) for _ in range(many)]
            sums = [sum(a * b for a, b in zip(left, numbers)) for left in rows]
            found = solution([row(*left, right) for left, right in zip(rows, sums)], many)
            self.assertEqual(len(found), many)
            told = fractions_of(found)
            self.assertEqual([sum(a * b for a, b in zip(left, told)) for left in rows], sums)
        self.assertEqual(solution([], 0), [])
        self.assertEqual(solution([], 2), [(0, 1), (0, 1)])
        self.assertEqual([Fraction(*number) for number in solution([row(2, 3)], 1)], [Fraction(3, 2)])

    def test_no_solution(self):
        self.assertIsNone(solution([row(1, 1), row(1, 2)], 1))
        self.assertIsNone(solution([row(0, 0, 3)], 2))
        self.assertIsNone(solution([row(1, 1, 1), row(2, -1, 0), row(3, 0, "1/2")], 2))
        self.assertEqual(solution([row(0, 0, 0)], 2), [(0, 1), (0, 1)])

    def test_null_rows(self):
        for seed in range(300):
            rows = self.some_rows(random.Random(seed))
            many = len(rows[0])
            told = null_rows([row(*numbers) for numbers in rows], many)
            self.assertEqual(plain_rows(told), told)
            for numbers in told:
                self.assertTrue(all(is_told_fraction(number) for number in numbers))
                products = [sum(a * b for a, b in zip(left, fractions_of(numbers))) for left in rows]
                self.assertEqual(products, [0] * len(rows))
            self.assertEqual(len(told), many - len(plain_rows([row(*numbers) for numbers in rows])))
        self.assertEqual(null_rows([], 2), (row(1, 0), row(0, 1)))
        self.assertEqual(null_rows([row(1, 2), row(0, 3)], 2), ())


if __name__ == "__main__":
    unittest.main()
