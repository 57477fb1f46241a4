"""Rows of windows."""

import unittest

from evenpace import rows


class Limits(unittest.TestCase):
    def test_constant(self):
        self.assertEqual(rows.MAX_ROWS, 500)
