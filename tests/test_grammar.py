"""The grammars that the tests of texts lean on, on short texts."""

import unittest

from tests.grammar import DEED, NAME, NUMBER, PAPER, QUESTION, fault


class GrammarTest(unittest.TestCase):
    def test_faults(self):
        for grammar, text, expected in (
                (NUMBER, "0", None), (NUMBER, "00", 1), (NUMBER, "", 0), (NUMBER, "1" * 100, None),
                (NUMBER, "1" * 101, 100), (NAME, "abcdefgh", None), (NAME, "abcdefghi", 8), (DEED, "hand 3.", None),
                (DEED, "hand 3", 6), (DEED, "seal 3 0(*).", None), (DEED, "put 3(*).", 6), (DEED, "hand 3.\n", 7),
                (QUESTION, "tables 1: a().", None), (QUESTION, "tables 1: .", 10), (PAPER, ": told[].", None),
                (PAPER, ": row 0(){told[]}{told[]}.", None), (PAPER, ": row 0(){told[]}.", 17)):
            self.assertEqual(fault(grammar, text), expected, text)


if __name__ == "__main__":
    unittest.main()
