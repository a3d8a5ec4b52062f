import unittest

from citeward.plain import (
    PLAIN_SIGNS, STYLE_SIGNS, angled, each_once, is_all_of, is_name, is_pair, is_plain, is_whole)

NO_TEXTS = (None, 1, 0, True, False, 1.5, [], ["a"], (), ("a",), {}, {"a": "a"}, b"a")


class Whole(unittest.TestCase):

    def test_whole_numbers(self):
        for value in (0, 1, -1, 7, 10 ** 59, -(10 ** 59)):
            self.assertIs(is_whole(value), True, value)

    def test_a_truth_is_none(self):
        self.assertIs(is_whole(True), False)
        self.assertIs(is_whole(False), False)

    def test_others(self):
        for value in (None, "1", "", 1.0, [1], (1,), {}):
            self.assertIs(is_whole(value), False, value)


class Pair(unittest.TestCase):

    def test_pairs(self):
        for value in ((1, 2), ("a", None), ((), [])):
            self.assertIs(is_pair(value), True, value)

    def test_others(self):
        for value in ((), (1,), (1, 2, 3), [1, 2], "ab", {1: 1, 2: 2}, None, 2):
            self.assertIs(is_pair(value), False, value)


class Name(unittest.TestCase):

    def test_names(self):
        for value in ("a", "z", "in", "kind", "abcdefgh", "stuvwxyz", "ijklmnop", "qr"):
            self.assertIs(is_name(value), True, value)

    def test_length(self):
        self.assertIs(is_name(""), False)
        self.assertIs(is_name("a" * 8), True)
        self.assertIs(is_name("a" * 9), False)

    def test_every_sign(self):
        for number in range(128):
            sign = chr(number)
            self.assertIs(is_name("a" + sign), "a" <= sign <= "z", repr(sign))

    def test_beyond_ascii(self):
        for value in ("\u00e4", "\u00df", "\u03b1", "\u00aa"):
            self.assertIs(is_name(value), False, value)

    def test_no_texts(self):
        for value in NO_TEXTS:
            self.assertIs(is_name(value), False, value)


class Plain(unittest.TestCase):

    def test_every_sign(self):
        for number in range(128):
            sign = chr(number)
            plain = sign.isalnum() or sign in " .,!?'-/()&+*="
            self.assertIs(is_plain(sign), plain, repr(sign))
            self.assertIs(is_plain("a" + sign + "b"), plain, repr(sign))

    def test_length(self):
        self.assertIs(is_plain(""), False)
        self.assertIs(is_plain(" "), True)
        self.assertIs(is_plain("Z" * 80), True)
        self.assertIs(is_plain("Z" * 81), False)

    def test_beyond_ascii(self):
        for value in ("\u00e4", "\u00b2", "\u0663", "\u00a0", "\u2019"):
            self.assertIs(is_plain(value), False, value)

    def test_no_texts(self):
        for value in NO_TEXTS:
            self.assertIs(is_plain(value), False, value)


class Signs(unittest.TestCase):

    def test_signs_of_a_style(self):
        self.assertEqual(STYLE_SIGNS, PLAIN_SIGNS + ":;")

    def test_all_of(self):
        self.assertIs(is_all_of("", "ab"), True)
        self.assertIs(is_all_of("abba", "ab"), True)
        self.assertIs(is_all_of("abc", "ab"), False)
        self.assertIs(is_all_of("a", ""), False)
        self.assertIs(is_all_of("a" * 20000, "a"), True)


class EachOnce(unittest.TestCase):

    def test_in_the_order_in_which_they_come_first(self):
        for things, answer in (([], []), (["a"], ["a"]), (["b", "a", "b", "c", "a"], ["b", "a", "c"])):
            before = list(things)
            told = each_once(things)
            self.assertEqual(told, answer)
            told.append("x")
            self.assertEqual(things, before)
            self.assertEqual(each_once(things), answer)


class Angled(unittest.TestCase):

    def test_by_turns(self):
        for text, cuts in (("", [""]), ("ab", ["ab"]), ("<x>", ["", "x", ""]), ("a<x>b", ["a", "x", "b"]),
                           ("<>", ["", "", ""]), ("<x><y>", ["", "x", "", "y", ""]), ("<x^ \n>b<a>", ["", "x^ \n", "b", "a", ""])):
            self.assertEqual(angled(text, "ab"), cuts)

    def test_none(self):
        for text in ("x", "<", ">", "<x", "x>", "<x>>", "<<x>", "<x>y", "<x>a<", "a<x>b<y", "<<>>", "A"):
            self.assertIsNone(angled(text, "ab"))


if __name__ == "__main__":
    unittest.main()
