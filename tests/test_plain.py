"""What plain values are [0.1], and the checks of them that all modules share."""

import unittest

from rootshared.base import plain
from rootshared.errors import NothingToUndo
from tests.helpers import Checks, HUNDRED_DIGITS, SIXTY_DIGITS, odd_values


class Plain(Checks):
    def test_integers_have_at_most_sixty_digits(self):
        for value in (0, 1, -1, SIXTY_DIGITS, -SIXTY_DIGITS, 10 ** 59, -10 ** 59):
            self.assertIs(plain.is_plain_integer(value), True)
        for value in (SIXTY_DIGITS + 1, -SIXTY_DIGITS - 1, HUNDRED_DIGITS, -HUNDRED_DIGITS):
            self.assertIs(plain.is_plain_integer(value), False)

    def test_true_and_false_are_no_integers(self):
        for value in (True, False):
            self.assertIs(plain.is_plain_integer(value), False)
            self.assertIs(plain.is_between(value, 0, 1), False)

    def test_other_values_are_no_integers(self):
        for value in odd_values():
            if not isinstance(value, int):
                self.assertIs(plain.is_plain_integer(value), False)

    def test_limits_of_any_length(self):
        self.assertIs(plain.is_between(SIXTY_DIGITS, 0, HUNDRED_DIGITS), True)
        self.assertIs(plain.is_between(SIXTY_DIGITS + 1, 0, HUNDRED_DIGITS), False)
        self.assertIs(plain.is_ascending((0, SIXTY_DIGITS), HUNDRED_DIGITS), True)
        self.assertIs(plain.is_ascending((0, SIXTY_DIGITS + 1), HUNDRED_DIGITS), False)

    def test_rows_of_things(self):
        self.same(plain.rows_over(0, (0, 1)), [()])
        self.same(plain.rows_over(2, (0, 1)), [(0, 0), (0, 1), (1, 0), (1, 1)])
        self.same(plain.rows_over(1, "ab"), [("a",), ("b",)])

    def test_checks_refuse_what_is_out_of_the_limits(self):
        plain.check_between(SIXTY_DIGITS, 0, HUNDRED_DIGITS)
        plain.check_index(0, 1)
        self.refused_number(HUNDRED_DIGITS, plain.check_between, HUNDRED_DIGITS, 0, HUNDRED_DIGITS)
        self.refused_number(1, plain.check_index, 1, 1)

    def test_what_can_be_taken_back(self):
        for many, there in ((0, 0), (0, 3), (3, 3), (SIXTY_DIGITS, HUNDRED_DIGITS)):
            plain.check_undo(many, there)
        for many, there in ((1, 0), (4, 3), (SIXTY_DIGITS, 0)):
            self.assertEqual(self.refused(NothingToUndo, plain.check_undo, many, there).many, many)
        for many in (-1, True, False, None, "1", SIXTY_DIGITS + 1, HUNDRED_DIGITS):
            self.refused_number(many, plain.check_undo, many, HUNDRED_DIGITS)


if __name__ == "__main__":
    unittest.main()
