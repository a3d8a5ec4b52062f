import itertools
import re
import unittest

from support import NO_TEXTS, Case

from citeward.errors import NoStyle
from citeward.templates import asked, fill, read_template, show_template

ALL_SIGNS = "ABCDEFGHIJKLMNOPQRSTUVWXYZabcdefghijklmnopqrstuvwxyz0123456789 .,!?'-/()&+*=:;"
FIELD = ("field", ("a",))
HANDS = ("hands", "by", 2, 1)


def signs(text):
    return ("signs", text)


def group(*pieces):
    return ("group", pieces)


# Each text is the only one of its template.
TEXTS = (
    ("", ()),
    ("x", (signs("x"),)),
    (" ", (signs(" "),)),
    ("name 1 0", (signs("name 1 0"),)),
    (ALL_SIGNS, (signs(ALL_SIGNS),)),
    ("x" * 20000, (signs("x" * 20000),)),
    ("{a}", (FIELD,)),
    ("{abcdefgh}", (("field", ("abcdefgh",)),)),
    ("{kind}", (("field", ("kind",)),)),
    ("{in}", (("field", ("in",)),)),
    ("{notes}", (("field", ("notes",)),)),
    ("{a|b}", (("field", ("a", "b")),)),
    ("{a|a|a}", (("field", ("a", "a", "a")),)),
    ("{d|c|b|a}", (("field", ("d", "c", "b", "a")),)),
    ("{abcdefgh|ijklmnop|qrstuvwx|yz}", (("field", ("abcdefgh", "ijklmnop", "qrstuvwx", "yz")),)),
    ("{by 2 1}", (HANDS,)),
    ("{by 1 0}", (("hands", "by", 1, 0),)),
    ("{by 9 2}", (("hands", "by", 9, 2),)),
    ("{kind 1 1}", (("hands", "kind", 1, 1),)),
    ("{a}{a}", (FIELD, FIELD)),
    ("{a} {by 2 1}: ", (FIELD, signs(" "), HANDS, signs(": "))),
    ("[x]", (group(signs("x")),)),
    ("x[y]z", (signs("x"), group(signs("y")), signs("z"))),
    ("[x][y]", (group(signs("x")), group(signs("y")))),
    ("[x{a}y]", (group(signs("x"), FIELD, signs("y")),)),
    ("[[x]]", (group(group(signs("x"))),)),
    ("[[[x]]]", (group(group(group(signs("x")))),)),
    ("[[[x]y]z]w", (group(group(group(signs("x")), signs("y")), signs("z")), signs("w"))),
    ("[[[{a}]][{by 2 1}[x]]][y]",
     (group(group(group(FIELD)), group(HANDS, group(signs("x")))), group(signs("y")))),
    ("{a}" * 30, (FIELD,) * 30),
    ("[{a}]" * 15, (group(FIELD),) * 15),
    ("[[[{a}]]]" * 7 + "{a}x", (group(group(group(FIELD))),) * 7 + (FIELD, signs("x"))),
    ("x{a}" * 15, (signs("x"), FIELD) * 15),
    ("[" + "{a}" * 29 + "]", (("group", (FIELD,) * 29),)),
    ("x" * 9990 + "[" + "y" * 9990 + "]", (signs("x" * 9990), group(signs("y" * 9990)))),
)

NO_STYLES = (
    "{a}" * 31, "x{a}" * 15 + "x", "[{a}]" * 15 + "x", "[" + "{a}" * 30 + "]", "[[[{a}]]]" * 7 + "{a}x{a}",
    "{by 2 1}" * 31, "[x]" * 16, "[x" + "{a}" * 29 + "]",
    "[[[[x]]]]", "[[[[{a}]]]]", "[a[b[c[d]]]]", "[[[x][[y]]]]",
    "[]", "[[]]", "x[]y", "[x[]]", "[[x][]]", "{a}[]",
    "[", "]", "][", "[x", "x]", "[x]]", "[[x]", "[x][", "]x[", "[{a]}", "[{a}", "{a}]", "{[a]}", "{a[}]",
    "{", "}", "{}", "}{", "{{}}", "{{a}}", "{a", "a}", "{a}}", "{{a}", "{a{b}}", "{a}{", "{a}}{b}",
    "{A}", "{aB}", "{1}", "{a1}", "{a b}", "{a-b}", "{ a}", "{a }", "{ }", "{  }", "{abcdefghi}", "{a:b}", "{a\n}",
    "{\u00e4}", "{a.}", "{a,b}", "{<a>}", "{^}",
    "{|}", "{a|}", "{|a}", "{a||b}", "{a| b}", "{a |b}", "{a | b}", "{a|b|c|d|e}", "{a|b|c|d|}", "{a|b|c|abcdefghi}",
    "{a|B}", "{a|b|c|d|e|f}", "|", "a|b",
    "{note}", "{a|note}", "{note|a}", "{a|b|c|note}", "{note 1 1}", "{note|note}", "[{note}]",
    "{a 1}", "{a 1 1 1}", "{a 1 }", "{a  1}", "{a  1 1}", "{a 1  1}", "{ a 1 1}", "{a 1 1 }", "{a  }", "{  1}",
    "{ 1 1}", "{a|b 1 1}", "{a 1|1}", "{a 1 1|b}", "{a|b|c 1 1}",
    "{a 0 1}", "{a 10 1}", "{a 12 1}", "{a 01 1}", "{a -1 1}", "{a +1 1}", "{a x 1}", "{a \u00b2 1}", "{a \u0663 1}",
    "{a 1 3}", "{a 1 -1}", "{a 1 01}", "{a 1 12}", "{a 1 x}", "{a 1 9}", "{a 1 \u0661}", "{a 1.0 1}", "{a 1_1 1}",
    "{A 1 1}", "{abcdefghi 1 1}", "{1 1 1}", "{a\t1\t1}", "{a\n1\n1}",
    "^", "<", ">", "<a>", "x^y", "x\ny", "\n", "x\n", "\nx", "\t", "\\", "\"", "%", "_", "#", "$", "@", "~", "`",
    "\x00", "\x7f", "\u00e4", "\u00a0", "x\u2019",
    "[" * 20000, "]" * 20000, "{" * 20000, "}" * 20000, "[]" * 10000, "{a}" * 6000, "[x" * 10000, "x[" * 10000,
    "[" * 10000 + "x" + "]" * 9999, "x" * 19999 + "{", "{" + "a" * 19998 + "}", "{" + "a|" * 9999 + "}",
    "{a" + " 1" * 9990 + "}",
)


def oracle():
    """The texts of templates, without the bound of thirty pieces, told by a pattern."""
    name = "(?!note[ |}])[a-z]{1,8}"
    piece = (r"[A-Za-z0-9 .,!?'\-/()&+*=:;]|\{" + name + r"(?:\|" + name + r"){0,3}\}|\{" + name + r" [1-9] [0-2]\}")
    deep = piece
    for depth in range(3):
        deep = piece + r"|\[(?:" + deep + r")+\]"
    return re.compile("(?:" + deep + ")*")


class Read(Case):

    def test_texts_are_read(self):
        for text, template in TEXTS:
            self.told(template, read_template, text)

    def test_other_texts_are_refused(self):
        for text in NO_STYLES:
            self.refused(NoStyle, read_template, text)

    def test_what_is_no_text_is_refused(self):
        for value in NO_TEXTS + (TEXTS[10][1], [("signs", "x")]):
            self.refused(NoStyle, read_template, value)

    def test_every_sign(self):
        for number in range(256):
            sign = chr(number)
            if sign in ALL_SIGNS:
                self.told((signs(sign),), read_template, sign)
                self.told((signs(sign + "x"),), read_template, sign + "x")
                self.told((FIELD, signs("x" + sign), group(signs(sign))), read_template, "{a}x" + sign + "[" + sign + "]")
            else:
                for text in (sign, "x" + sign, sign + "x", "{a}" + sign, "[x" + sign + "]"):
                    self.refused(NoStyle, read_template, text)

    def test_every_sign_in_a_name(self):
        for number in range(256):
            sign = chr(number)
            if "a" <= sign <= "z":
                self.told((("field", ("x" + sign,)),), read_template, "{x" + sign + "}")
                self.told((("hands", sign, 1, 0),), read_template, "{" + sign + " 1 0}")
            elif sign != "}":
                self.refused(NoStyle, read_template, "{x" + sign + "}")
                self.refused(NoStyle, read_template, "{x" + sign + " 1 0}")

    def test_every_sign_as_many_and_way(self):
        for number in range(256):
            sign = chr(number)
            if sign == "}":
                continue
            if sign not in "123456789":
                self.refused(NoStyle, read_template, "{by " + sign + " 1}")
            if sign not in "012":
                self.refused(NoStyle, read_template, "{by 1 " + sign + "}")

    def test_every_many_and_way(self):
        for many in range(20):
            for way in range(12):
                text = "{by " + str(many) + " " + str(way) + "}"
                if 1 <= many <= 9 and way <= 2:
                    self.told((("hands", "by", many, way),), read_template, text)
                else:
                    self.refused(NoStyle, read_template, text)

    def test_all_short_texts(self):
        pattern = oracle()
        cuts = ("a", " ", "1", "{", "}", "[", "]", "|", "{a}", "{b|a 1 1}", "{a 1 0}", "{note}", "[[", "]]")
        read = 0
        for length in range(5):
            for chosen in itertools.product(cuts, repeat=length):
                text = "".join(chosen)
                try:
                    template = read_template(text)
                except NoStyle:
                    template = None
                self.assertEqual(template is not None, pattern.fullmatch(text) is not None, text)
                if template is not None:
                    read += 1
                    self.assertEqual(show_template(template), text)
        self.assertGreater(read, 500)


class Show(Case):

    def test_templates_are_shown(self):
        for text, template in TEXTS:
            self.told(text, show_template, template)

    def test_read_back(self):
        for text, template in TEXTS:
            self.assertEqual(read_template(show_template(template)), template)
            self.assertEqual(show_template(read_template(text)), text)

    def test_somewhat_beyond_the_bounds_is_not_refused(self):
        self.told("{a}" * 40, show_template, (FIELD,) * 40)
        self.told("[[[[[x]]]]]", show_template, (group(group(group(group(group(signs("x")))))),))
        self.told("{a|b|c|d|e}", show_template, (("field", tuple("abcde")),))
        self.told("{by 12 1}", show_template, (("hands", "by", 12, 1),))


class Fill(Case):

    def check(self, answer, text, texts):
        self.told(answer, fill, read_template(text), texts)

    def test_signs(self):
        for text in ("", "x", "(a): b; c = d", ALL_SIGNS):
            self.check(text, text, {})
            self.check(text, text, {"x": "other", "a": "other"})

    def test_a_field(self):
        self.check("A", "{a}", {"a": "A"})
        self.check("A", "{a}", {"a": "A", "b": "B"})
        self.check("", "{a}", {})
        self.check("", "{a}", {"b": "B"})
        self.check("x  y", "x {a} y", {})
        self.check("x A y", "x {a} y", {"a": "A"})
        self.check("AA", "{a}{a}", {"a": "A"})

    def test_the_first_name_that_is_there(self):
        template = "{c|a|d|b}"
        self.check("A", template, {"a": "A", "b": "B"})
        self.check("A", template, {"b": "B", "a": "A"})
        self.check("C", template, {"a": "A", "b": "B", "c": "C", "d": "D"})
        self.check("D", template, {"b": "B", "d": "D"})
        self.check("B", template, {"b": "B"})
        self.check("", template, {"e": "E"})
        self.check("A", "{a|a}", {"a": "A"})

    def test_a_field_is_told_as_it_is(self):
        self.check("Lee, Ann & Kim", "{by}", {"by": "Lee, Ann & Kim"})
        self.check("{a}[x]", "{a}", {"a": "{a}[x]"})
        self.check(" ", "{a}", {"a": " "})

    def test_hands(self):
        texts = {"by": "Lee, Ann Bo & Kim & Rao, Cy"}
        self.check("Lee and others", "{by 1 0}", texts)
        self.check("A. B. Lee, Kim and others", "{by 2 1}", texts)
        self.check("Ann Bo Lee, Kim and Cy Rao", "{by 3 2}", texts)
        self.check("Lee, Kim and Rao", "{by 9 0}", texts)
        self.check("A. B. Lee", "{by 1 1}", {"by": "Lee, Ann Bo"})
        self.check("Lee and Kim", "{by 2 0}", {"by": "Lee & Kim"})
        self.check("a, b, c, d, e and f", "{by 6 2}", {"by": "a & b & c & d & e & f"})

    def test_hands_that_are_none_are_told_as_they_are(self):
        for text in ("1901", "A. Lee", "Lee, A B C D E", "a & b & c & d & e & f & g", "Lee,Ann", " ", "Lee ", "Lee & ",
                     "O'Lee", "a" * 16, "Lee and Kim", "Z" * 80):
            for piece in ("{by 1 0}", "{by 1 1}", "{by 9 2}"):
                self.check(text, piece, {"by": text})
        self.check("a" * 15, "{by 1 0}", {"by": "a" * 15})

    def test_hands_that_are_not_there(self):
        self.check("", "{by 1 1}", {})
        self.check("x.", "x{by 1 1}.", {"b": "Lee", "byy": "Lee"})

    def test_a_group(self):
        self.check("x", "[x]", {})
        self.check("(A)", "[({a})]", {"a": "A"})
        self.check("", "[({a})]", {})
        self.check("", "[({a}{b})]", {"a": "A"})
        self.check("", "[({a}{b})]", {"b": "B"})
        self.check("(AB)", "[({a}{b})]", {"a": "A", "b": "B"})
        self.check("(B)", "[({a|b})]", {"b": "B"})
        self.check("x  y", "x [({a})] y", {})
        self.check("(Lee)", "[({by 1 0})]", {"by": "Lee"})
        self.check("(!)", "[({by 1 0})]", {"by": "!"})
        self.check("", "[({by 1 0})]", {})
        self.check("", "[{a}({by 1 0})]", {"a": "A"})

    def test_a_field_ahead_of_a_group_does_not_silence_it(self):
        self.check("x", "{a}[x]", {})
        self.check("xy", "[x]{a}[y][{b}z]", {})

    def test_a_group_in_a_group(self):
        self.check("xy", "[x[y]]", {})
        self.check("x", "[x[y{a}]]", {})
        self.check("xyA", "[x[y{a}]]", {"a": "A"})
        self.check("", "[x{a}[y]]", {})
        self.check("", "[x{a}[y{b}]]", {"b": "B"})
        self.check("xA", "[x{a}[y{b}]]", {"a": "A"})
        self.check("", "[[{a}]]", {})
        self.check("x", "[x[[{a}]]]", {})
        self.check("xz", "[x[y{a}]z]", {})
        self.check("xz", "[x[[y{a}]z]]", {})
        self.check("x", "[x[z{b}[y{a}]]]", {"a": "A"})
        self.check("xzB", "[x[z{b}[y{a}]]]", {"b": "B"})
        self.check("xzByA", "[x[z{b}[y{a}]]]", {"a": "A", "b": "B"})
        self.check("", "[x{c}[z{b}[y{a}]]]", {"a": "A", "b": "B"})
        self.check("", "[x{c 1 1}[z{b}[y{a}]]]", {"a": "A", "b": "B"})

    def test_pieces_stand_one_behind_another(self):
        text = "{by 2 1}[ ({year})]: {title}[, in {book}[, {town}]]."
        full = {"by": "Lee, Ann", "year": "1901", "title": "Of Ulm", "book": "All", "town": "Ulm"}
        self.check("A. Lee (1901): Of Ulm, in All, Ulm.", text, full)
        self.check("A. Lee: Of Ulm, in All.", text, {"by": "Lee, Ann", "title": "Of Ulm", "book": "All"})
        self.check(": Of Ulm.", text, {"title": "Of Ulm", "town": "Ulm"})
        self.check(": .", text, {})

    def test_at_the_bounds(self):
        self.check("A" * 30, "{a}" * 30, {"a": "A"})
        self.check("A" * 29, "[" + "{a}" * 29 + "]", {"a": "A"})
        self.check("x" * 20000, "x" * 20000, {})

    def test_somewhat_beyond_the_bounds_is_not_refused(self):
        self.told("A" * 40, fill, (FIELD,) * 40, {"a": "A"})
        self.told("xA", fill, (group(group(group(group(signs("x"), FIELD)))),), {"a": "A"})
        self.told("", fill, (group(group(group(group(signs("x"), FIELD)))),), {})
        self.told("E", fill, (("field", tuple("abcde")),), {"e": "E"})
        self.told("Lee and Kim", fill, (("hands", "by", 12, 0),), {"by": "Lee & Kim"})


class Asked(Case):

    def check(self, names, text):
        self.told(names, asked, read_template(text))

    def test_names_from_the_left(self):
        self.check([], "")
        self.check([], "x[y]")
        self.check(["a"], "{a}")
        self.check(["b", "a"], "{b}{a}")
        self.check(["d", "c", "b", "a"], "{d|c|b|a}")
        self.check(["by"], "{by 1 1}")
        self.check(["z", "by", "a"], "{z}{by 1 1}{a}")
        self.check(["z", "y", "x", "w", "v"], "{z}[{y}[{x 1 0}[{w}]]]{v}")

    def test_each_once(self):
        self.check(["a"], "{a}{a}[{a}]{a 1 1}{a|a}")
        self.check(["b", "a", "c"], "{b|a}{a|c|b}[{c}{b 2 2}]")

    def test_needed_or_not(self):
        self.check(["title", "name", "by", "book", "town"], "{title|name}[{by 1 1}][, {book}[ ({town})]]")

    def test_kind_is_a_name_like_others(self):
        self.check(["kind", "in"], "{kind|in}")

    def test_somewhat_beyond_the_bounds_is_not_refused(self):
        self.told(["a", "b", "c", "d", "e"], asked, (("field", tuple("abcde")),) * 40)
        self.told(["a"], asked, (group(group(group(group(FIELD)))),))


if __name__ == "__main__":
    unittest.main()
