"""farplaces/errors.py, as the document's interface lists it."""

import unittest

from farplaces.errors import FarError, NoAsk, NoJoin, NoPlace, NoTree

PARTS = (NoJoin, NoAsk, NoTree, NoPlace)


class Standing(unittest.TestCase):
    def test_all_stand_under_far_error(self):
        self.assertTrue(issubclass(FarError, ValueError))
        for part in PARTS:
            self.assertTrue(issubclass(part, FarError))

    def test_none_stands_under_another(self):
        for part in PARTS:
            for other in PARTS:
                self.assertEqual(issubclass(part, other), part is other)
            self.assertFalse(issubclass(FarError, part))

    def test_each_is_caught_as_far_error_and_as_value_error(self):
        for made in (NoJoin("a"), NoAsk("a"), NoTree(0), NoPlace("a")):
            for above in (FarError, ValueError):
                with self.assertRaises(above):
                    raise made


class Kept(unittest.TestCase):
    def test_texts_are_told_by_str(self):
        for part in (NoJoin, NoAsk):
            for text in ("", "a", "no such line: put a b 0"):
                self.assertEqual(str(part(text)), text)

    def test_the_row_is_kept(self):
        for row in (0, 1, 61):
            self.assertEqual(NoTree(row).row, row)
            self.assertIs(type(NoTree(row).row), int)

    def test_the_name_is_kept(self):
        for name in ("a", "abcdefgh"):
            self.assertEqual(NoPlace(name).name, name)

    def test_each_keeps_its_own(self):
        first, second = NoTree(1), NoTree(2)
        one, other = NoPlace("one"), NoPlace("other")
        self.assertEqual((first.row, second.row), (1, 2))
        self.assertEqual((one.name, other.name), ("one", "other"))

    def test_str_tells_a_text(self):
        self.assertIs(type(str(NoTree(3))), str)
        self.assertIs(type(str(NoPlace("a"))), str)


if __name__ == "__main__":
    unittest.main()
