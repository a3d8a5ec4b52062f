import itertools
import unittest

from support import Case, NO_TEXTS

from citeward.errors import NoList, Ring
from citeward.marks import marked, read_list, write_list
from citeward.plain import PLAIN_SIGNS, STYLE_SIGNS
from citeward.shelves import all_had
from citeward.templates import asked, fill, read_template

FIELDS = {"by": "Lee, Ann & Kim", "title": "Of Ulm", "year": "1901"}
SHELF = {
    "ulm": ("part", {"by": "Lee, Ann & Kim", "title": "Of Ulm", "in": "towns", "note": "See <kim>."}),
    "towns": ("book", {"name": "Towns", "year": "1901"}),
    "bare": ("book", {}),
}
TABLE = {"part": [("year", "year"), ("book", "name")]}
ROW = read_template("[{by 1 1}: ]{title|name}[, in {book}][ ({year})]")

# Asked for t or s, "own" and "two" are rings.
RINGS = {"own": ("k", {"in": "own", "u": "U"}), "two": ("k", {"in": "two"}), "fine": ("j", {"t": "T"})}
RING_TABLE = {"k": [("t", "t"), ("s", "r"), ("r", "s")]}


class Marked(Case):

    def check(self, answer, text, fields=FIELDS):
        self.told(answer, marked, read_template(text), fields)

    def test_signs(self):
        self.check("", "")
        self.check("a: b; (c)", "a: b; (c)")

    def test_a_field(self):
        self.check("<title=Of Ulm>", "{title}")
        self.check("x<title=Of Ulm>y", "x{title}y")
        self.check("", "{name}")
        self.check("xy", "x{name}y")

    def test_the_name_that_it_tells(self):
        self.check("<title=Of Ulm>", "{name|title}")
        self.check("<title=Of Ulm>", "{title|year}")
        self.check("<year=1901>", "{year|title}")
        self.check("<year=1901>", "{a|b|c|year}")
        self.check("", "{a|b}")

    def test_hands_are_told_whole(self):
        for text in ("{by 1 0}", "{by 1 1}", "{by 9 2}", "{by 2 0}"):
            self.check("<by=Lee, Ann & Kim>", text)
        self.check("<title=Of Ulm>", "{title 1 1}")
        self.check("<year=1901>", "{year 1 0}")
        self.check("", "{name 1 0}")
        self.check("<by=Lee>", "{by 1 2}", {"by": "Lee"})

    def test_groups(self):
        self.check(" (<year=1901>)", "[ ({year})]")
        self.check("", "[ ({town})]")
        self.check("", "[{year}{town}]")
        self.check("", "[{year}{town 1 1}]")
        self.check("<year=1901>, ", "[{year}, [in {town}]]")
        self.check("", "[{town}[{year}]]")
        self.check("ab<year=1901>", "[a[b[{year}]]]")
        self.check("x", "[x]")

    def test_a_name_told_twice(self):
        self.check("<year=1901><year=1901>", "{year}{year}")
        self.check("<by=Lee, Ann & Kim>, <by=Lee, Ann & Kim>", "{by}, {by 1 1}")

    def test_signs_in_a_text(self):
        for text in (PLAIN_SIGNS, "=", "a=b", " ", "x" * 80, "&", "Lee, Ann"):
            self.check("<t=" + text + ">", "{t}", {"t": text})
            self.check("<t=" + text + ">", "{t 1 0}", {"t": text})

    def test_no_fields(self):
        self.check("x", "x{a}{b 1 1}[{c}]", {})

    def test_just_where_fill_tells_a_text(self):
        pieces = ("x", "{a}", "{b|a}", "{c 1 0}", "[{a}y]", "[{b}[{c}]z]")
        texts = {"a": "A", "b": "B, C", "c": "C, D"}
        for first, second, third in itertools.product(pieces, repeat=3):
            template = read_template(first + second + third)
            for many in range(4):
                for names in itertools.combinations("abc", many):
                    # Texts that are told as they are, by hands too, once they are no hands.
                    plain = {name: texts[name] + "!" for name in names}
                    told = fill(template, {name: "<" + name + "=" + text + ">" for name, text in plain.items()})
                    self.assertEqual(marked(template, plain), told)
                    hands = {name: texts[name] for name in names}
                    self.assertEqual(marked(template, hands), told.replace("!", ""))


class WriteList(Case):

    def test_rows(self):
        self.told("ulm part <by=Lee, Ann & Kim>: <title=Of Ulm>, in <book=Towns> (<year=1901>)\n"
                  "towns book <name=Towns> (<year=1901>)", write_list, SHELF, TABLE, ["ulm", "towns"], ROW)

    def test_the_order_of_the_keys(self):
        self.told("towns book <name=Towns>\nbare book \nulm part ", write_list, SHELF, TABLE, ["towns", "bare", "ulm"],
                  read_template("{name}"))

    def test_no_works(self):
        self.told("", write_list, SHELF, TABLE, [], ROW)
        self.told("", write_list, {}, {}, [], ())

    def test_a_template_without_pieces(self):
        self.told("bare book ", write_list, SHELF, TABLE, ["bare"], ())
        self.told("bare book \nulm part ", write_list, SHELF, TABLE, ["bare", "ulm"], ())

    def test_signs_alone(self):
        self.told("bare book  x: ", write_list, SHELF, TABLE, ["bare"], read_template(" x: "))

    def test_without_a_table(self):
        self.told("ulm part <title=Of Ulm>", write_list, SHELF, {}, ["ulm"], read_template("{title}[ ({year})]"))

    def test_rings(self):
        for keys, text, ring in (
                (["own"], "{t}", [("own", "t")]), (["fine", "two", "own"], "{t}", [("two", "t")]),
                (["own", "two"], "{t}", [("own", "t")]), (["own"], "{s}{t}", [("own", "s"), ("own", "r")]),
                (["own"], "{t}{s}", [("own", "t")]), (["own"], "{r}", [("own", "r"), ("own", "s")]),
                (["own"], "{u|t}", [("own", "t")]), (["own"], "[{x}[{t 1 1}]]", [("own", "t")])):
            self.refused(Ring, write_list, RINGS, RING_TABLE, keys, read_template(text), ring=ring)

    def test_a_ring_of_a_work_that_is_not_written_is_not_asked(self):
        self.told("fine j <t=T>", write_list, RINGS, RING_TABLE, ["fine"], read_template("{t}"))
        self.told("own k <u=U>", write_list, RINGS, RING_TABLE, ["own"], read_template("{u}"))

    def test_the_longest_list(self):
        keys = ["a" + first + second for first in "abcdefghij" for second in "abcdefghij"]
        shelf = {key: ("k", {"t": key}) for key in keys}
        self.told("\n".join([key + " k <t=" + key + ">" for key in keys]), write_list, shelf, {}, keys,
                  read_template("{t}"))


class ReadList(Case):

    def test_rows(self):
        self.told({"ulm": ("part", {"by": "Lee, Ann & Kim", "title": "Of Ulm", "book": "Towns", "year": "1901"}),
                   "towns": ("book", {"name": "Towns", "year": "1901"})}, read_list,
                  "ulm part <by=Lee, Ann & Kim>: <title=Of Ulm>, in <book=Towns> (<year=1901>)\n"
                  "towns book <name=Towns> (<year=1901>)")

    def test_the_text_without_signs(self):
        self.told({}, read_list, "")

    def test_a_row_without_marks(self):
        for text in ("a b ", "a b  ", "a b x", "a b a=b", "a b :;", "a b " + STYLE_SIGNS, "a b " + "x" * 200):
            self.told({"a": ("b", {})}, read_list, text)

    def test_keys_and_kinds_are_any_names(self):
        for key, kind in (("kind", "note"), ("note", "kind"), ("in", "in"), ("a" * 8, "z" * 8), ("a", "a")):
            self.told({key: (kind, {"t": "T"})}, read_list, key + " " + kind + " <t=T>")

    def test_texts_of_marks(self):
        for text in (PLAIN_SIGNS, " ", "=", "==a=", "x" * 80, "in", "kind=x"):
            self.told({"a": ("b", {"t": text})}, read_list, "a b <t=" + text + ">")

    def test_names_of_marks(self):
        for name in ("a", "abcdefgh", "in", "kinds", "notes", "not", "kin"):
            self.told({"a": ("b", {name: "T"})}, read_list, "a b <" + name + "=T>")

    def test_several_marks(self):
        self.told({"a": ("b", {"s": "S", "t": "T"})}, read_list, "a b <s=S><t=T>")
        self.told({"a": ("b", {"s": "S", "t": "T"})}, read_list, "a b  <t=T>: x <s=S>;")

    def test_a_name_twice_with_the_same_text(self):
        self.told({"a": ("b", {"t": "T", "s": "S"})}, read_list, "a b <t=T><s=S> <t=T>, <t=T>")

    def test_the_same_name_in_two_rows(self):
        self.told({"a": ("b", {"t": "T"}), "c": ("b", {"t": "U"})}, read_list, "a b <t=T>\nc b <t=U>")

    def test_no_texts(self):
        for value in NO_TEXTS:
            self.refused(NoList, read_list, value, row=1)

    def test_rows_that_are_none(self):
        for row in (
                "a", "a b", " ", "  ", "a ", " a b ", "a  b ", " b ", "a  ", "A b ", "a B ", "abcdefghi b ", "a abcdefghi ",
                "a1 b ", "a b1 ", "a\tb ", "<t=T>", "a <t=T>", "a b<t=T>", "a <t=T> ", "<t=T> b ",
                "a b <", "a b >", "a b <>", "a b <t>", "a b <t=>", "a b <=T>", "a b <=>", "a b <t=T", "a b t=T>",
                "a b <t=T>>", "a b <<t=T>", "a b <<t=T>>", "a b <t=<s=S>>", "a b <T=T>", "a b <t =T>", "a b < t=T>",
                "a b <note=T>", "a b <kind=b>", "a b <kind=T>", "a b <abcdefghi=T>", "a b <t1=T>", "a b <s|t=T>",
                "a b <t=x:>", "a b <t=x;>", "a b <t=" + "x" * 81 + ">", "a b <t=^>", "a b <t=x\t>", "a b <t=\r>",
                "a b {t}", "a b [", "a b ]", "a b ^a", "a b x ^", "a b |", "a b _", "a b \"", "a b #", "a b \\", "a b \t",
                "a b \r", "a b <t=T><s=", "a b <t=T>{", "a b <t T>", "a b <t:T>"):
            self.refused(NoList, read_list, row, row=1)
            self.refused(NoList, read_list, "x y \n" + row, row=2)
            self.refused(NoList, read_list, row + "\nx y ", row=1)
            self.refused(NoList, read_list, "x y \nz y <t=T>\n" + row + "\nx y ", row=3)

    def test_every_sign(self):
        for number in range(128):
            sign = chr(number)
            if sign in STYLE_SIGNS:
                self.told({"a": ("b", {})}, read_list, "a b " + sign)
            else:
                self.refused(NoList, read_list, "a b x" + sign, row=2 if sign == "\n" else 1)
            if sign in PLAIN_SIGNS:
                self.told({"a": ("b", {"t": sign})}, read_list, "a b <t=" + sign + ">")
            elif sign != ">":
                self.refused(NoList, read_list, "a b <t=x" + sign + ">", row=1)

    def test_unlike_texts_of_a_name(self):
        for row in ("a b <t=T><t=U>", "a b <t=T> <s=T> <t=t>", "a b <t=T><t=T><t=T >"):
            self.refused(NoList, read_list, row, row=1)
            self.refused(NoList, read_list, "x y \n" + row + "\n<", row=2)

    def test_a_key_twice(self):
        self.refused(NoList, read_list, "a b \na b ", row=2)
        self.refused(NoList, read_list, "a b <t=T>\na c <t=U>", row=2)
        self.refused(NoList, read_list, "a b \nc b \nd b \na b \nd b ", row=4)
        self.refused(NoList, read_list, "a b \nc b \nc b \n<", row=3)
        self.refused(NoList, read_list, "a b \n<\na b ", row=2)

    def test_row_ends(self):
        self.refused(NoList, read_list, "\n", row=1)
        self.refused(NoList, read_list, "\na b ", row=1)
        self.refused(NoList, read_list, "a b \n", row=2)
        self.refused(NoList, read_list, "a b \n\nc d ", row=2)
        self.refused(NoList, read_list, "a b \nc d \n\n", row=3)
        self.refused(NoList, read_list, "a b \r\nc d ", row=1)
        self.refused(NoList, read_list, "a b <t=\n>", row=1)
        self.refused(NoList, read_list, "a\nb ", row=1)

    def test_the_longest_list(self):
        keys = ["a" + first + second for first in "abcdefghij" for second in "abcdefghij"]
        rows = [key + " k <t=" + key + ">" for key in keys]
        self.told({key: ("k", {"t": key}) for key in keys}, read_list, "\n".join(rows))
        self.refused(NoList, read_list, "\n".join(rows[:-1] + ["x"]), row=100)
        self.refused(NoList, read_list, "\n".join(rows + rows[:1]), row=101)

    def test_a_long_text(self):
        text = "a b " + "<t=T>, " * 2800
        self.told({"a": ("b", {"t": "T"})}, read_list, text)
        self.refused(NoList, read_list, text + "<t=U>", row=1)


class ReadBack(Case):

    def test_what_the_template_tells(self):
        self.assertEqual(read_list(write_list(SHELF, TABLE, ["ulm", "towns", "bare"], ROW)), {
            "ulm": ("part", {"by": "Lee, Ann & Kim", "title": "Of Ulm", "book": "Towns", "year": "1901"}),
            "towns": ("book", {"name": "Towns", "year": "1901"}),
            "bare": ("book", {}),
        })

    def test_no_works(self):
        self.assertEqual(read_list(write_list(SHELF, TABLE, [], ROW)), {})

    def test_every_small_work(self):
        values = {"a": (None, "A", "x=y"), "b": (None, "Lee, Ann & Kim", "=", " "), "c": (None, "C", "(c)")}
        for text in ("", "{a}{b}{c}", "[{a}: {b}]; {c}", "[{a}, [{b 1 1}]]{c}", "{a|b} {b|a} {c 1 2}", "x[{c}[ ({a})]]{a}"):
            template = read_template(text)
            for chosen in itertools.product(*values.values()):
                fields = {name: value for name, value in zip(values, chosen) if value is not None}
                self.check_read_back({"x": ("k", fields), "y": ("j", {"in": "x"})}, {"j": [("a", "a"), ("c", "b")]},
                                     template)

    def check_read_back(self, shelf, table, template):
        told = read_list(write_list(shelf, table, ["y", "x"], template))
        self.assertEqual({key: kind for key, (kind, fields) in told.items()}, {"x": "k", "y": "j"})
        for key, (kind, fields) in told.items():
            have = all_had(shelf, table, key, asked(template))
            self.assertLessEqual(set(fields.items()), set(have.items()))
            # The same is told of what is read back, also with marks.
            self.assertEqual(fill(template, fields), fill(template, have))
            self.assertEqual(marked(template, fields), marked(template, have))


if __name__ == "__main__":
    unittest.main()
