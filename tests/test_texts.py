import itertools
import re
import unittest

from support import NO_TEXTS, Case

from citeward.errors import NoText
from citeward.texts import note_keys, read_text, show_text

PLAIN = "ABCDEFGHIJKLMNOPQRSTUVWXYZabcdefghijklmnopqrstuvwxyz0123456789 .,!?'-/()&+*="


def point(key, place=None):
    return ("point", key, place)


TEXTS = (
    ("", []),
    ("x", ["x"]),
    (" ", [" "]),
    ("\n", ["\n"]),
    ("See: x;\ny.", ["See: x;\ny."]),
    (PLAIN + ":;\n", [PLAIN + ":;\n"]),
    ("x" * 20000, ["x" * 20000]),
    ("<ab>", [point("ab")]),
    ("<a>", [point("a")]),
    ("<abcdefgh>", [point("abcdefgh")]),
    ("<note>", [point("note")]),
    ("<kind>", [point("kind")]),
    ("<ab 12-14>", [point("ab", "12-14")]),
    ("<ab  x>", [point("ab", " x")]),
    ("<ab  >", [point("ab", " ")]),
    ("<ab x >", [point("ab", "x ")]),
    ("<ab cd ef>", [point("ab", "cd ef")]),
    ("<ab " + PLAIN + ">", [point("ab", PLAIN)]),
    ("<ab " + "x" * 80 + ">", [point("ab", "x" * 80)]),
    ("<ab " + " " * 80 + ">", [point("ab", " " * 80)]),
    ("<ab><ab>", [point("ab"), point("ab")]),
    ("<ab>x<cd>", [point("ab"), "x", point("cd")]),
    ("x<ab>y<cd p. 1>\nz", ["x", point("ab"), "y", point("cd", "p. 1"), "\nz"]),
    ("<a> <b>\n<c>", [point("a"), " ", point("b"), "\n", point("c")]),
    ("<a>" * 6666, [point("a")] * 6666),
    ("<a>x" * 5000, [point("a"), "x"] * 5000),
)

NO_POINTED = (
    "<", ">", "<>", "><", "<<", ">>", "< >", "<  >", "< x>", "<ab", "ab>", "x<ab", "x<ab y", "<ab>>", "<<ab>",
    "<<ab>>", "<ab<cd>>", "<ab<cd>", "<ab><", "<ab>>x", "x>y", "x<y", "<ab x<y>", "<ab x>y>",
    "<ab >", "< ab>", "< ab x>", "<ab x\n>", "<ab\nx>", "<ab\n>", "<ab\tx>", "<ab x:y>", "<ab x;y>", "<ab :>", "<ab ;>",
    "<Ab>", "<aB x>", "<a1>", "<1>", "<abcdefghi>", "<abcdefghi x>", "<a-b>", "<a.b>", "<a,b>", "<a:b>", "<\u00e4>",
    "<ab \u00e4>", "<ab x^>", "<ab {x}>", "<ab [x]>", "<ab " + "x" * 81 + ">", "<ab " + " " * 81 + ">",
    "^", "x^y", "{", "}", "[x]", "|", "_", "#", "\t", "\r", "\\", "\"", "%", "@", "~", "\x00", "\u00e4", "\u2028",
    "x\u00a0", "<ab>^", "<ab>\t", "^<ab>",
    "<" * 20000, ">" * 20000, "<>" * 10000, "<a" * 10000, "x" * 19999 + "<", "<a>" * 6666 + "<",
    "<" + "a" * 19998 + ">", "<a " + "x" * 19996 + ">",
)


class Read(Case):

    def test_texts_are_read(self):
        for text, parts in TEXTS:
            self.told(parts, read_text, text)

    def test_other_texts_are_refused(self):
        for text in NO_POINTED:
            self.refused(NoText, read_text, text)

    def test_what_is_no_text_is_refused(self):
        for value in NO_TEXTS + ([point("ab")], point("ab")):
            self.refused(NoText, read_text, value)

    def test_every_sign(self):
        for number in range(256):
            sign = chr(number)
            if sign in PLAIN + ":;\n":
                self.told(["x" + sign], read_text, "x" + sign)
                self.told([point("ab"), sign, point("ab")], read_text, "<ab>" + sign + "<ab>")
            else:
                for text in (sign, "x" + sign, sign + "x", "<ab>" + sign, sign + "<ab>"):
                    self.refused(NoText, read_text, text)

    def test_every_sign_in_a_pointing(self):
        for number in range(256):
            sign = chr(number)
            if "a" <= sign <= "z":
                self.told([point("a" + sign)], read_text, "<a" + sign + ">")
            elif sign != ">":
                self.refused(NoText, read_text, "<a" + sign + ">")
            if sign in PLAIN:
                self.told([point("a", sign)], read_text, "<a " + sign + ">")
            else:
                self.refused(NoText, read_text, "<a " + sign + ">")

    def test_all_short_texts(self):
        pattern = re.compile(r"(?:[A-Za-z0-9 .,!?'\-/()&+*=:;\n]|<[a-z]{1,8}(?: [A-Za-z0-9 .,!?'\-/()&+*=]{1,80})?>)*")
        read = 0
        for length in range(7):
            for chosen in itertools.product("aX <>\n", repeat=length):
                text = "".join(chosen)
                try:
                    parts = read_text(text)
                except NoText:
                    parts = None
                self.assertEqual(parts is not None, pattern.fullmatch(text) is not None, text)
                if parts is not None:
                    read += 1
                    self.assertEqual(show_text(parts), text)
                    self.assertNotIn("", parts)
                    kinds = [isinstance(part, str) for part in parts]
                    self.assertNotIn((True, True), list(zip(kinds, kinds[1:])))
        self.assertGreater(read, 5000)


class Show(Case):

    def test_texts_are_shown(self):
        for text, parts in TEXTS:
            self.told(text, show_text, parts)

    def test_read_back(self):
        for text, parts in TEXTS:
            self.assertEqual(read_text(show_text(parts)), parts)
            self.assertEqual(show_text(read_text(text)), text)

    def test_somewhat_beyond_the_bounds_is_not_refused(self):
        self.told("<abcdefghi " + "x" * 90 + ">", show_text, [point("abcdefghi", "x" * 90)])


class NoteKeys(Case):

    def check(self, keys, note):
        self.told(keys, note_keys, ("book", {"title": "<no> note", "note": note}))

    def test_keys_in_order_each_as_often_as_it_comes(self):
        self.check(["ab"], "<ab>")
        self.check(["b", "a", "b", "b"], "See <b>, <a 1>;\n<b 2><b>.")
        self.check(["a"] * 6666, "<a>" * 6666)

    def test_a_note_without_pointings(self):
        self.check([], "")
        self.check([], "x: y;\n")

    def test_a_note_that_is_no_text_with_pointings(self):
        for text in NO_POINTED:
            self.check([], text)
        self.check([], "<ab> and <")
        self.check([], "<ab> ^")
        self.check([], "<ab><Cd>")

    def test_no_note(self):
        self.told([], note_keys, ("book", {}))
        self.told([], note_keys, ("book", {"title": "<ab>", "in": "ab", "notes": "<ab>"}))
        self.told([], note_keys, ("note", {}))


if __name__ == "__main__":
    unittest.main()
