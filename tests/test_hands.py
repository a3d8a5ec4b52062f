import copy
import unittest

from citeward.errors import NoHands
from citeward.hands import read_hands, show_hands, told_hand, told_hands

LONG = "Abcdefghijklmno"
LEE = ("Lee", ("Ann", "Bo"))
KIM = ("Kim", ())
RAO = ("Rao", ("Cy",))
FOUR = ("Fox", ("Ann", "bo", "C", "Dee"))
SIX = [LEE, KIM, RAO, FOUR, ("a", ("b",)), ("Zed", ())]

# Each text is the only one of its hands.
TEXTS = (
    ("Lee", [("Lee", ())]),
    ("Lee, Ann", [("Lee", ("Ann",))]),
    ("Lee, Ann Bo", [LEE]),
    ("Fox, Ann bo C Dee", [FOUR]),
    ("a", [("a", ())]),
    ("Z", [("Z", ())]),
    ("z, A", [("z", ("A",))]),
    ("LEE, ANN", [("LEE", ("ANN",))]),
    ("and", [("and", ())]),
    (LONG, [(LONG, ())]),
    (LONG + ", " + LONG + " p", [(LONG, (LONG, "p"))]),
    ("pqrstuvwxyz, PQRSTUVWXYZ", [("pqrstuvwxyz", ("PQRSTUVWXYZ",))]),
    ("ABCDEFGHIJKLMNO", [("ABCDEFGHIJKLMNO", ())]),
    ("Lee & Kim", [("Lee", ()), KIM]),
    ("Kim & Kim", [KIM, KIM]),
    ("Kim & Lee, Ann Bo & Rao, Cy", [KIM, LEE, RAO]),
    ("Lee, Ann Bo & Kim & Rao, Cy & Fox, Ann bo C Dee & a, b & Zed", SIX),
    ("a & b & c & d & e & f", [(family, ()) for family in "abcdef"]),
)

NO_HANDS = (
    "",
    "Lee, A B C D E",
    "Kim & Lee, A B C D E",
    "a & b & c & d & e & f & g",
    LONG + "p",
    "Lee, " + LONG + "p",
    "Lee, Ann " + LONG + "p",
    "Lee2", "2", "Lee, An3", "Lee, Ann 4",
    "O'Lee", "Lee-Fox", "Lee.", "Lee, A.", "Lee, Ann;", "Lee_", "Lee?", "(Lee)", "Lee/Kim", "Lee=", "<Lee>",
    "Lee\u00e9", "\u00c9", "Lee, \u00e9",
    " ", "  ", " Lee", "Lee ", "Lee,  Ann", "Lee, Ann  Bo", "Lee, Ann Bo ", " Lee, Ann", "Lee  & Kim", "Lee &  Kim",
    "Lee & Kim ", " Lee & Kim", "Lee Kim", "Lee Ann, Bo",
    ",", ", ", "Lee,", "Lee, ", "Lee, & Kim", "Lee,  & Kim", "Lee & Kim,", "Lee & Kim, ", ", Ann",
    "Lee ,", "Lee , Ann", "Lee ,Ann", "Lee,Ann", "Lee, Ann, Bo", "Lee, Ann,Bo", "Lee,, Ann", "Lee, , Ann",
    "&", " &", "& ", " & ", "Lee&Kim", "Lee& Kim", "Lee &Kim", "Lee &", "Lee & ", "& Kim", " & Kim",
    "Lee & & Kim", "Lee &  & Kim", "Lee && Kim", "Lee, & Ann", "Lee, Ann & ", "Lee & Kim & ",
    "Lee\n", "\nLee", "Lee, Ann\n", "Lee & Kim\n", "Lee,\nAnn", "Lee, Ann\nBo", "Lee\n& Kim", "\n",
    "Lee\t", "Lee,\tAnn", "Lee\r", "Lee\x00",
    "Lee and Kim", "Lee;Kim",
    "a" * 20000, "a & " * 5000, "Lee, " + "a " * 9000,
)

NO_TEXTS = (None, 0, 1, -3, 10 ** 60, True, False, 1.5, [], ["Lee"], [("Lee", ())], (), ("Lee",), ("Lee", ()),
            {}, {"Lee": ()}, b"Lee", object(), str)


class Read(unittest.TestCase):

    def test_texts_are_read(self):
        for text, hands in TEXTS:
            with self.subTest(text):
                self.assertEqual(read_hands(text), hands)

    def test_kinds(self):
        for text, hands in TEXTS:
            with self.subTest(text):
                told = read_hands(text)
                self.assertIs(type(told), list)
                for hand in told:
                    self.assertIs(type(hand), tuple)
                    self.assertEqual(len(hand), 2)
                    self.assertIs(type(hand[0]), str)
                    self.assertIs(type(hand[1]), tuple)

    def test_what_is_told_is_the_askers_own(self):
        first = read_hands("Lee, Ann Bo & Kim")
        first[0] = KIM
        first.append(RAO)
        self.assertEqual(read_hands("Lee, Ann Bo & Kim"), [LEE, KIM])
        second = read_hands("Lee, Ann Bo & Kim")
        read_hands("Lee, Ann Bo & Kim").clear()
        self.assertEqual(second, [LEE, KIM])
        self.assertEqual(first, [KIM, KIM, RAO])

    def test_texts_of_no_hands_are_refused(self):
        for text in NO_HANDS:
            with self.subTest(text[:60]):
                with self.assertRaises(NoHands):
                    read_hands(text)

    def test_every_other_sign_is_refused(self):
        for number in range(128):
            sign = chr(number)
            if sign.isalpha():
                self.assertEqual(read_hands("Le" + sign + "e, A" + sign), [("Le" + sign + "e", ("A" + sign,))])
                continue
            for text in ("Le" + sign + "e", sign, "Lee" + sign, sign + "Lee", "Lee, Ann" + sign, "Kim & Lee" + sign):
                with self.subTest(text):
                    with self.assertRaises(NoHands):
                        read_hands(text)

    def test_what_is_no_text_is_refused(self):
        for value in NO_TEXTS:
            with self.subTest(repr(value)):
                with self.assertRaises(NoHands):
                    read_hands(value)

    def test_a_refused_list_is_not_changed(self):
        value = ["Lee", ["Kim"]]
        with self.assertRaises(NoHands):
            read_hands(value)
        self.assertEqual(value, ["Lee", ["Kim"]])


class Show(unittest.TestCase):

    def test_hands_are_shown(self):
        for text, hands in TEXTS:
            with self.subTest(text):
                self.assertEqual(show_hands(hands), text)

    def test_read_back_to_an_equal_list(self):
        for text, hands in TEXTS:
            with self.subTest(text):
                self.assertEqual(read_hands(show_hands(hands)), hands)
                self.assertEqual(show_hands(read_hands(text)), text)

    def test_unlike_hands_have_unlike_texts(self):
        shown = {show_hands(hands) for text, hands in TEXTS}
        self.assertEqual(len(shown), len(TEXTS))

    def test_hands_are_not_changed(self):
        for text, hands in TEXTS:
            before = copy.deepcopy(hands)
            show_hands(hands)
            self.assertEqual(hands, before)

    def test_somewhat_beyond_the_bounds_is_not_refused(self):
        self.assertEqual(show_hands([KIM] * 7), " & ".join(["Kim"] * 7))
        self.assertEqual(show_hands([("a" * 16, tuple("bcdef"))]), "a" * 16 + ", b c d e f")


class ToldHand(unittest.TestCase):

    def test_way_0(self):
        for hand, text in ((KIM, "Kim"), (LEE, "Lee"), (FOUR, "Fox"), (("a", ("b",)), "a")):
            self.assertEqual(told_hand(hand, 0), text)

    def test_way_1(self):
        for hand, text in ((KIM, "Kim"), (RAO, "C. Rao"), (LEE, "A. B. Lee"), (FOUR, "A. b. C. D. Fox")):
            self.assertEqual(told_hand(hand, 1), text)

    def test_way_2(self):
        for hand, text in ((KIM, "Kim"), (RAO, "Cy Rao"), (LEE, "Ann Bo Lee"), (FOUR, "Ann bo C Dee Fox")):
            self.assertEqual(told_hand(hand, 2), text)


class ToldHands(unittest.TestCase):

    def check(self, hands, many, way, text):
        with self.subTest(hands=hands, many=many, way=way):
            before = copy.deepcopy(hands)
            self.assertEqual(told_hands(hands, many, way), text)
            self.assertEqual(hands, before)

    def test_one(self):
        for many in (1, 2, 9):
            self.check([LEE], many, 0, "Lee")
            self.check([LEE], many, 1, "A. B. Lee")
            self.check([LEE], many, 2, "Ann Bo Lee")
            self.check([KIM], many, 1, "Kim")
            self.check([FOUR], many, 1, "A. b. C. D. Fox")

    def test_two(self):
        self.check([LEE, KIM], 1, 0, "Lee and others")
        self.check([LEE, KIM], 1, 1, "A. B. Lee and others")
        self.check([LEE, KIM], 1, 2, "Ann Bo Lee and others")
        for many in (2, 3, 9):
            self.check([LEE, KIM], many, 0, "Lee and Kim")
            self.check([LEE, KIM], many, 1, "A. B. Lee and Kim")
            self.check([KIM, LEE], many, 2, "Kim and Ann Bo Lee")

    def test_three(self):
        self.check([LEE, KIM, RAO], 1, 0, "Lee and others")
        self.check([LEE, KIM, RAO], 2, 0, "Lee, Kim and others")
        self.check([LEE, KIM, RAO], 2, 1, "A. B. Lee, Kim and others")
        self.check([LEE, KIM, RAO], 2, 2, "Ann Bo Lee, Kim and others")
        for many in (3, 4, 10 ** 59):
            self.check([LEE, KIM, RAO], many, 0, "Lee, Kim and Rao")
            self.check([LEE, KIM, RAO], many, 1, "A. B. Lee, Kim and C. Rao")
            self.check([LEE, KIM, RAO], many, 2, "Ann Bo Lee, Kim and Cy Rao")

    def test_six(self):
        self.check(SIX, 1, 0, "Lee and others")
        self.check(SIX, 3, 1, "A. B. Lee, Kim, C. Rao and others")
        self.check(SIX, 5, 0, "Lee, Kim, Rao, Fox, a and others")
        for many in (6, 7, 9):
            self.check(SIX, many, 0, "Lee, Kim, Rao, Fox, a and Zed")
            self.check(SIX, many, 1, "A. B. Lee, Kim, C. Rao, A. b. C. D. Fox, b. a and Zed")
            self.check(SIX, many, 2, "Ann Bo Lee, Kim, Cy Rao, Ann bo C Dee Fox, b a and Zed")

    def test_somewhat_beyond_the_bounds_is_not_refused(self):
        self.check([KIM] * 7, 6, 0, "Kim, Kim, Kim, Kim, Kim, Kim and others")
        self.check([KIM] * 7, 7, 0, "Kim, Kim, Kim, Kim, Kim, Kim and Kim")


if __name__ == "__main__":
    unittest.main()
