"""The module rows: points [16] and [21]."""

import unittest
from itertools import permutations

from bentlines.errors import BadKind, BadLine, BadNumber, BadTurn
from bentlines.rows import first_row, highest, is_rising, last_row, stand, turned
from tests.helpers import NO_INTEGERS, NO_LISTS, DueCase

NO_ROWS = (*NO_LISTS, [], (), [1], [0, 0], [0, 2], [1, 2], [0, True], [False, 1], [0, "1"], [0, 1.0], [0, None],
           list(range(17)), [0, -1], [[0], 1])
NO_TURNS = (*NO_LISTS, [], (0,), (0, 2, 2), (-1, 2), (0, 1), (0, 0), (1, -1), (0, 5), (3, 2), (4, 2), (0.0, 2),
            (False, 2), (0, True), ("0", 2), (0, None), (10 ** 299, 2), (0, 10 ** 299))


class RowsTest(DueCase):
    def test_first_and_last(self):
        """[16] The first row is 0, 1, .., n-1, the last row n-1, .., 1, 0."""
        for size in range(1, 17):
            self.assertEqual(tuple(range(size)), first_row(size))
            self.assertEqual(tuple(range(size - 1, -1, -1)), last_row(size))
        for size in (*NO_INTEGERS, 0, 17, -1):
            self.due(BadNumber, {"word": "size"}, first_row, size)
            self.due(BadNumber, {"word": "size"}, last_row, size)

    def test_turns(self):
        """[16] A turn can be done if its lines stand rising; then they stand the opposite way."""
        for size in range(1, 6):
            for row in permutations(range(size)):
                for p in range(size):
                    for m in range(2, size - p + 1):
                        self.check_turn(row, p, m)

    def check_turn(self, row, p, m):
        names = row[p:p + m]
        rising = all(a < b for a, b in zip(names, names[1:]))
        self.assertIs(rising, is_rising(row, (p, m)))
        self.assertIs(rising, is_rising(list(row), [p, m]))
        if rising:
            behind = row[:p] + names[::-1] + row[p + m:]
            self.assertEqual(behind, turned(row, (p, m)))
            self.assertEqual(behind, turned(list(row), [p, m]))
        else:
            self.due(BadTurn, {"at": 0}, turned, row, (p, m))

    def test_most_lines(self):
        row = list(range(16))
        self.assertIs(True, is_rising(row, (0, 16)))
        self.assertEqual(last_row(16), turned(row, [0, 16]))
        self.assertEqual(list(range(16)), row)

    def test_one_line_has_no_turn(self):
        for turn in ((0, 1), (0, 2), (0, 0)):
            self.due(BadTurn, {"at": 0}, is_rising, (0,), turn)
            self.due(BadTurn, {"at": 0}, turned, [0], turn)

    def test_bad_turns(self):
        for turn in NO_TURNS:
            self.due(BadTurn, {"at": 0}, is_rising, (0, 1, 2, 3), turn)
            self.due(BadTurn, {"at": 0}, turned, [0, 1, 2, 3], turn)

    def test_bad_rows(self):
        """[21] A row has the lines 0 .. n-1, each once, 1 <= n <= 16."""
        for row in NO_ROWS:
            self.due(BadKind, {"word": "row"}, is_rising, row, None)
            self.due(BadKind, {"word": "row"}, turned, row, None)
            self.due(BadKind, {"word": "row"}, highest, row, None)
            self.due(BadKind, {"word": "row"}, stand, row, None)

    def test_highest(self):
        """[16] The stands go from above to below."""
        for row in permutations(range(4)):
            for j in range(5):
                self.assertEqual(tuple(sorted(row[:j])), highest(row, j))
                self.assertEqual(tuple(sorted(row[:j])), highest(list(row), j))
        for j in (*NO_INTEGERS, -1, 5, 10 ** 299):
            self.due(BadNumber, {"word": "j"}, highest, (3, 1, 0, 2), j)

    def test_stand(self):
        for row in permutations(range(4)):
            for line in range(4):
                self.assertEqual(line, row[stand(row, line)])
                self.assertEqual(line, row[stand(list(row), line)])
        for line in (*NO_INTEGERS, -1, 4, 10 ** 299):
            self.due(BadLine, {"line": line}, stand, (3, 1, 0, 2), line)


if __name__ == "__main__":
    unittest.main()
