"""[4.1], [4.2], and [0.1] to [0.5] and [0.9] of the functions on matrices."""
import itertools
import unittest

from tests import brute
from tests.wrong import check_call, check_is, check_wrong, much_junk, width_at
from wordlaws.code.rows import is_matrix, matrix_product, matrix_times
from wordlaws.errors import InvalidMatrix, InvalidNumber, InvalidVector

SIDES = range(1, 6)


def is_side(value):
    return brute.is_int(value, 1, 5)


def right_matrix(width, rows, columns, value):
    return brute.are_vectors(width, columns, value) and len(value) == rows


def is_any_matrix(width, value):
    return any(right_matrix(width, rows, columns, value) for rows in SIDES for columns in SIDES)


def side_at(place):
    return lambda args: None if is_side(args[place]) else (InvalidNumber, "value", args[place])


def matrices_from(place):
    """All arguments from this place on are matrices, at least one, and fit."""
    def check(args):
        matrices = args[place:]
        if not matrices or not all(is_any_matrix(args[0], matrix) for matrix in matrices):
            return (InvalidMatrix,)
        fit = all(len(first[0]) == len(second) for first, second in zip(matrices, matrices[1:]))
        return None if fit else (InvalidMatrix,)
    return check


def matrix_at(place):
    return lambda args: None if is_any_matrix(args[0], args[place]) else (InvalidMatrix,)


def fitting_at(place):
    return lambda args: None if brute.is_vector(args[0], len(args[1][0]), args[place]) else (InvalidVector,)


def some_matrix(source, width, rows, columns):
    return brute.some_vectors(source, width, columns, rows)


class Matrices(unittest.TestCase):
    def test_sides(self):
        for width, rows, columns in itertools.product((1, 4, 16), SIDES, SIDES):
            matrix = some_matrix(brute.seeded(rows * 5 + columns), width, rows, columns)
            for other in itertools.product(SIDES, SIDES):
                self.assertIs(is_matrix(width, *other, matrix), other == (rows, columns))
            for value in (matrix[1:], matrix + matrix[:1], list(matrix), (list(matrix[0]),) + matrix[1:]):
                self.assertIs(is_matrix(width, rows, columns, value), False)
            for value in (matrix[:-1] + (matrix[-1][1:],), matrix[:-1] + (matrix[-1] + (0,),)):
                self.assertIs(is_matrix(width, rows, columns, value), False)
            for row, column in itertools.product(range(rows), range(columns)):
                for entry in (True, None, -1, 2 ** width, "0", (0,), [0], 10 ** 39):
                    vector = matrix[row][:column] + (entry,) + matrix[row][column + 1:]
                    value = matrix[:row] + (vector,) + matrix[row + 1:]
                    self.assertIs(is_matrix(width, rows, columns, value), False)

    def test_wrong_arguments(self):
        checks = [width_at(0), side_at(1), side_at(2)]
        check_is(self, is_matrix, (4, 2, 2, ((1, 1), (0, 2))), checks, right_matrix)
        check_is(self, is_matrix, (4, 1, 3, ((1, 1, 15),)), checks, right_matrix)
        for value in (0, -1, 6, 7, 40, True, False, None, "1", 10 ** 39):
            check_call(self, is_matrix, checks, (4, value, 2, ()))
            check_call(self, is_matrix, checks, (4, 2, value, ()))
            check_call(self, is_matrix, checks, (0, value, 6, ()))


class Products(unittest.TestCase):
    def test_times(self):
        for width, rows, columns in itertools.product((1, 2, 4, 16), SIDES, SIDES):
            source = brute.seeded(width * 100 + rows * 5 + columns)
            for _ in range(3):
                matrix = some_matrix(source, width, rows, columns)
                vector = brute.some_vector(source, width, columns)
                expected = tuple(
                    sum(matrix[row][k] * vector[k] for k in range(columns)) % 2 ** width for row in range(rows)
                )
                self.assertEqual(matrix_times(width, matrix, vector), expected)
            for size in range(1, 8):
                check_call(self, matrix_times, [fitting_at(2)], (width, matrix, (1,) * size))

    def test_product_of_two(self):
        for rows, middle, other, columns in itertools.product(SIDES, repeat=4):
            width = 1 + (rows * middle + columns) % 16
            source = brute.seeded(rows + 5 * middle + 25 * columns)
            first = some_matrix(source, width, rows, middle)
            second = some_matrix(source, width, other, columns)
            check_call(self, matrix_product, [matrices_from(1)], (width, first, second))
            if other != middle:
                continue
            expected = tuple(
                tuple(sum(first[r][k] * second[k][c] for k in range(middle)) % 2 ** width for c in range(columns))
                for r in range(rows)
            )
            product = matrix_product(width, first, second)
            self.assertEqual(product, expected)
            self.assertTrue(right_matrix(width, rows, columns, product))

    def test_product_does_the_last_one_first(self):
        for sides in ((1, 2, 3, 4), (5, 5, 5, 5), (3, 1, 5, 2), (1, 1, 1, 1), (2, 5, 1, 3), (2, 4, 2, 4, 2, 4, 2)):
            source = brute.seeded(sum(sides))
            matrices = [some_matrix(source, 16, rows, columns) for rows, columns in zip(sides, sides[1:])]
            vector = brute.some_vector(source, 16, sides[-1])
            expected = vector
            for matrix in reversed(matrices):
                expected = matrix_times(16, matrix, expected)
            self.assertEqual(matrix_times(16, matrix_product(16, *matrices), vector), expected)

    def test_product_of_one(self):
        for rows, columns in itertools.product(SIDES, SIDES):
            matrix = some_matrix(brute.seeded(rows * 5 + columns), 4, rows, columns)
            self.assertEqual(matrix_product(4, matrix), matrix)

    def test_no_matrix(self):
        checks = [width_at(0), matrices_from(1)]
        for width in (1, 4, 16, 0, 17, True, None):
            check_call(self, matrix_product, checks, (width,))

    def test_values_that_are_no_matrices(self):
        one = ((1, 2), (3, 4))
        wrong = [(), ((),), ((), ()), ((1, 2), (3,)), ((1,) * 6,), ((1,),) * 6, ([1, 2], [3, 4]), [one], 1, None,
                 ((1, 2), (3, 16)), ((1, 2), (3, -1)), ((1, 2), (3, True)), ((1, 2), 3), (1, 2), {}, "", ((1, 2), None)]
        for value in wrong:
            self.assertFalse(is_any_matrix(4, value))
            check_call(self, matrix_product, [matrices_from(1)], (4, value))
            check_call(self, matrix_product, [matrices_from(1)], (4, one, value))
            check_call(self, matrix_product, [matrices_from(1)], (4, value, one))
            check_call(self, matrix_product, [matrices_from(1)], (4, one, one, value, one))
            for vector in ((1, 2), (1,), None):
                check_call(self, matrix_times, [matrix_at(1), fitting_at(2)], (4, value, vector))

    def test_wrong_arguments(self):
        one, two = ((1, 0), (6, 1)), ((1, 0), (0, 3))
        checks = [width_at(0), matrices_from(1)]
        check_wrong(self, matrix_times, (4, one, (1, 12)), [width_at(0), matrix_at(1), fitting_at(2)])
        check_wrong(self, matrix_product, (4,), checks)
        check_wrong(self, matrix_product, (4, one), checks)
        check_wrong(self, matrix_product, (4, one, one, two), checks)
        for junk in much_junk():
            check_call(self, matrix_product, checks, (4, junk, one))


class Examples(unittest.TestCase):
    def test_example(self):
        self.assertEqual(matrix_times(4, ((1, 0), (6, 1)), (1, 12)), (1, 2))
        product = matrix_product(4, ((1, 0), (6, 1)), ((1, 0), (6, 1)), ((1, 0), (0, 3)))
        self.assertEqual(product, ((1, 0), (12, 3)))
