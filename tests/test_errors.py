import unittest

from citeward.errors import (
    CiteError, NoHands, NoList, NoName, NoNumber, NoPlain, NoRow, NoStyle, NoText, NoWork, Ring)

REFUSALS = (NoHands, Ring, NoStyle, NoText, NoWork, NoList, NoName, NoNumber, NoPlain, NoRow)


class Standing(unittest.TestCase):

    def test_all_stand_straight_under_cite_error(self):
        self.assertEqual(CiteError.__bases__, (ValueError,))
        for refusal in REFUSALS:
            with self.subTest(refusal.__name__):
                self.assertEqual(refusal.__bases__, (CiteError,))

    def test_none_stands_under_another(self):
        for one in REFUSALS:
            for other in REFUSALS:
                with self.subTest(one=one.__name__, other=other.__name__):
                    self.assertEqual(issubclass(one, other), one is other)

    def test_names(self):
        names = [refusal.__name__ for refusal in REFUSALS]
        self.assertEqual(names, ["NoHands", "Ring", "NoStyle", "NoText", "NoWork", "NoList",
                                 "NoName", "NoNumber", "NoPlain", "NoRow"])

    def test_each_is_taken_as_a_cite_error(self):
        made = (NoHands("x"), Ring([("a", "b")]), NoStyle("x"), NoText("x"), NoWork("a"),
                NoList(1), NoName("x"), NoNumber("x"), NoPlain("x"), NoRow("x"))
        for error in made:
            with self.subTest(error.__class__.__name__):
                with self.assertRaises(CiteError):
                    raise error


class Values(unittest.TestCase):

    def test_ring(self):
        self.assertEqual(Ring([("a", "b"), ("c", "d")]).ring, [("a", "b"), ("c", "d")])
        self.assertEqual(Ring([("a", "b")]).ring, [("a", "b")])

    def test_ring_is_as_it_was_when_made(self):
        pairs = [("a", "b")]
        error = Ring(pairs)
        pairs.append(("c", "d"))
        self.assertEqual(error.ring, [("a", "b")])
        error.ring.clear()
        self.assertEqual(pairs, [("a", "b"), ("c", "d")])

    def test_each_object_has_its_own_value(self):
        one, other = Ring([("a", "b")]), Ring([("c", "d")])
        self.assertEqual((one.ring, other.ring), ([("a", "b")], [("c", "d")]))

    def test_key(self):
        self.assertEqual(NoWork("ab").key, "ab")
        self.assertEqual(NoWork("").key, "")
        self.assertEqual(NoWork("No Name 1").key, "No Name 1")

    def test_row(self):
        self.assertEqual(NoList(1).row, 1)
        self.assertEqual(NoList(73).row, 73)


if __name__ == "__main__":
    unittest.main()
