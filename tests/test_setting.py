import itertools
import unittest

from support import Case

from citeward.errors import NoText, NoWork, Ring
from citeward.ladder import fits, letter, pointings, rival, step_of
from citeward.setting import in_order, listed, set_text, steps_of
from citeward.templates import read_template
from citeward.texts import note_keys, read_text

TEXT = ("text",)

SHELF = {
    "ulm": ("part", {"by": "Lee, Ann", "title": "Of Ulm", "in": "all", "note": "See <kim 3> and <gone>."}),
    "bonn": ("part", {"by": "Lee, Bo", "title": "Of Bonn", "in": "all"}),
    "rome": ("part", {"by": "Rao, Cy", "title": "Of Rome", "in": "all", "year": "1999"}),
    "all": ("book", {"name": "All Towns", "year": "1901", "town": "Ulm", "in": "row"}),
    "row": ("row", {"name": "A Row", "note": "<all> stands in <row>; <last>."}),
    "kim": ("book", {"by": "Kim & Lee, Ann & Rao", "name": "Alone", "note": "no <text"}),
    "last": ("book", {"name": "The Last", "year": "1901"}),
    "free": ("book", {"name": "Free"}),
}
TABLE = {
    "part": [("year", "year"), ("book", "name"), ("town", "town")],
    "book": [("row", "name")],
}
STYLE = {
    "ladder": [read_template("{by 1 0}[ {year}]"), read_template("{by 2 1}[ {year}]")],
    "row": read_template("[{by 9 2}. ]{title|name}[, in {book}][ ({year})]"),
    "order": ["by", "year"],
    "many": 2,
}

# Asked for t, "own" and "two" are rings; "fine" is none, nor does it become one by "u".
RINGS = {
    "own": ("k", {"in": "own", "u": "B"}),
    "two": ("k", {"in": "own", "u": "A"}),
    "fine": ("j", {"u": "C", "t": "T", "s": "S"}),
}
RING_TABLE = {"k": [("t", "t"), ("s", "r"), ("r", "s")]}
RING_T = [("own", "t")]
RING_S = [("own", "s"), ("own", "r")]
RING_R = [("own", "r"), ("own", "s")]


def style(ladder=("",), row="", order=(), many=2):
    return {"ladder": [read_template(text) for text in ladder], "row": read_template(row), "order": list(order),
            "many": many}


def slow_listed(shelf, keys, many):
    """The same as the document says it, each round from the beginning."""
    told = []
    for place, key in enumerate(keys):
        if key in shelf and key not in keys[:place]:
            told.append((key, 0, TEXT))
    for number in itertools.count(1):
        before = [triple[0] for triple in told]
        fresh = []
        for key in sorted(set(shelf) - set(before)):
            notes = [one for one in before if key in note_keys(shelf[one])]
            parts = [one for one in before if shelf[one][1].get("in") == key]
            if notes:
                fresh.append((key, number, ("note", notes[0])))
            elif len(parts) >= many:
                fresh.append((key, number, ("parts", tuple(parts[:many]))))
        if not fresh:
            return told
        told += fresh


class Listed(Case):

    def test_by_the_text(self):
        self.told([("last", 0, TEXT)], listed, SHELF, ["last"], 2)
        self.told([("last", 0, TEXT), ("free", 0, TEXT)], listed, SHELF, ["last", "free"], 2)
        self.told([("free", 0, TEXT), ("last", 0, TEXT)], listed, SHELF, ["free", "last", "free", "free", "last"], 2)

    def test_no_keys(self):
        self.told([], listed, SHELF, [], 1)
        self.told([], listed, {}, [], 1)

    def test_keys_that_the_shelf_has_not(self):
        self.told([], listed, SHELF, ["gone", "in"], 1)
        self.told([], listed, {}, ["gone"], 1)
        self.told([("last", 0, TEXT)], listed, SHELF, ["gone", "last", "gone"], 1)

    def test_by_a_note(self):
        self.told([("ulm", 0, TEXT), ("kim", 1, ("note", "ulm"))], listed, SHELF, ["ulm"], 2)
        self.told([("row", 0, TEXT), ("all", 1, ("note", "row")), ("last", 1, ("note", "row"))],
                  listed, SHELF, ["row"], 2)

    def test_a_note_that_points_to_what_is_listed(self):
        self.told([("kim", 0, TEXT), ("ulm", 0, TEXT)], listed, SHELF, ["kim", "ulm"], 2)

    def test_a_note_of_a_work_that_is_not_listed(self):
        self.told([("all", 0, TEXT)], listed, SHELF, ["all"], 2)

    def test_a_note_that_is_no_text_with_pointings(self):
        shelf = {"a": ("k", {"note": "<b> ^"}), "b": ("k", {})}
        self.told([("a", 0, TEXT)], listed, shelf, ["a"], 1)

    def test_the_first_listed_work_whose_note_points_to_it(self):
        shelf = {"a": ("k", {"note": "<x>"}), "b": ("k", {"note": "<x><y>"}), "c": ("k", {"note": "<y>"}),
                 "x": ("k", {}), "y": ("k", {})}
        self.told([("c", 0, TEXT), ("b", 0, TEXT), ("a", 0, TEXT), ("x", 1, ("note", "b")), ("y", 1, ("note", "c"))],
                  listed, shelf, ["c", "b", "a"], 1)
        self.told([("a", 0, TEXT), ("c", 0, TEXT), ("b", 0, TEXT), ("x", 1, ("note", "a")), ("y", 1, ("note", "c"))],
                  listed, shelf, ["a", "c", "b"], 1)

    def test_by_parts(self):
        self.told([("ulm", 0, TEXT), ("bonn", 0, TEXT), ("all", 1, ("parts", ("ulm", "bonn"))),
                   ("kim", 1, ("note", "ulm"))], listed, SHELF, ["ulm", "bonn"], 2)
        self.told([("rome", 0, TEXT), ("bonn", 0, TEXT), ("ulm", 0, TEXT), ("all", 1, ("parts", ("rome", "bonn"))),
                   ("kim", 1, ("note", "ulm"))], listed, SHELF, ["rome", "bonn", "ulm"], 2)

    def test_how_many_parts(self):
        keys = ["rome", "bonn"]
        self.told([("rome", 0, TEXT), ("bonn", 0, TEXT), ("all", 1, ("parts", ("rome",))), ("row", 2, ("parts", ("all",))),
                   ("last", 3, ("note", "row"))], listed, SHELF, keys, 1)
        self.told([("rome", 0, TEXT), ("bonn", 0, TEXT), ("all", 1, ("parts", ("rome", "bonn")))],
                  listed, SHELF, keys, 2)
        for many in (3, 4, 10 ** 59):
            self.told([("rome", 0, TEXT), ("bonn", 0, TEXT)], listed, SHELF, keys, many)

    def test_a_note_goes_ahead_of_parts(self):
        shelf = {"a": ("k", {"in": "c"}), "b": ("k", {"note": "<c>"}), "c": ("k", {})}
        self.told([("a", 0, TEXT), ("b", 0, TEXT), ("c", 1, ("note", "b"))], listed, shelf, ["a", "b"], 1)
        self.told([("a", 0, TEXT), ("c", 1, ("parts", ("a",)))], listed, shelf, ["a"], 1)

    def test_parts_of_several_rounds(self):
        shelf = {"a": ("k", {"in": "z", "note": "<b><y>"}), "b": ("k", {"in": "z"}), "y": ("k", {"in": "z"}),
                 "z": ("k", {})}
        self.told([("y", 0, TEXT), ("a", 0, TEXT), ("b", 1, ("note", "a")), ("z", 2, ("parts", ("y", "a", "b")))],
                  listed, shelf, ["y", "a"], 3)

    def test_those_of_the_same_round_do_not_count(self):
        shelf = {"a": ("k", {"note": "<b>"}), "b": ("k", {"note": "<c>", "in": "d"}), "c": ("k", {"in": "d"}),
                 "d": ("k", {})}
        self.told([("a", 0, TEXT), ("b", 1, ("note", "a")), ("c", 2, ("note", "b")), ("d", 2, ("parts", ("b",)))],
                  listed, shelf, ["a"], 1)
        self.told([("a", 0, TEXT), ("b", 1, ("note", "a")), ("c", 2, ("note", "b")), ("d", 3, ("parts", ("b", "c")))],
                  listed, shelf, ["a"], 2)

    def test_in_is_a_works_own(self):
        self.told([("a", 0, TEXT)], listed, {"a": ("k", {"in": "b x"}), "b": ("k", {})}, ["a"], 1)
        self.told([("a", 0, TEXT), ("b", 1, ("parts", ("a",)))], listed,
                  {"a": ("k", {"in": "b"}), "b": ("k", {}), "c": ("k", {})}, ["a"], 1)

    def test_a_work_is_no_reason_for_itself(self):
        shelf = {"a": ("k", {"in": "a", "note": "<a>"}), "b": ("k", {"note": "<b>"}), "c": ("k", {"in": "c"})}
        self.told([("a", 0, TEXT)], listed, shelf, ["a"], 1)

    def test_in_the_order_of_their_keys(self):
        shelf = {"z": ("k", {}), "b": ("k", {}), "ab": ("k", {}), "a": ("k", {}),
                 "m": ("k", {"note": "<z><b><a><ab>"})}
        self.told([("m", 0, TEXT), ("a", 1, ("note", "m")), ("ab", 1, ("note", "m")), ("b", 1, ("note", "m")),
                   ("z", 1, ("note", "m"))], listed, shelf, ["m"], 1)

    def test_the_greatest_shelf(self):
        keys = [first + second for first in "abcde" for second in "abcdefgh"]
        shelf = {key: ("k", {"note": "<" + behind + ">"}) for key, behind in zip(keys, keys[1:])}
        shelf[keys[-1]] = ("k", {"note": "<aa>"})
        chain = [("aa", 0, TEXT)]
        for number in range(1, 40):
            chain.append((keys[number], number, ("note", keys[number - 1])))
        self.told(chain, listed, shelf, ["aa"], 1)

    def test_long_notes(self):
        keys = [first + second for first in "abcde" for second in "abcdefgh"]
        shelf = {key: ("k", {"note": "x" * 19000 + "<" + behind + ">"}) for key, behind in zip(keys, keys[1:])}
        self.assertEqual([triple[1] for triple in listed(shelf, ["aa"], 1)], list(range(39)))

    def test_all_small_shelves(self):
        choices = [{}, {"in": "c"}, {"note": "<b><c>"}, {"note": "<d>", "in": "d"}, {"note": "<a>", "in": "b"}]
        for chosen in itertools.product(choices, repeat=4):
            shelf = {key: ("k", fields) for key, fields in zip("dbca", chosen)}
            for keys in (["a"], ["c", "a"], ["b", "d", "b"]):
                for many in (1, 2, 3):
                    self.assertEqual(listed(shelf, keys, many), slow_listed(shelf, keys, many), (shelf, keys, many))


class InOrder(Case):

    def test_no_fields(self):
        self.told(["a", "ab", "b"], in_order, {key: ("k", {}) for key in ("b", "a", "ab")}, {}, ["b", "ab", "a"], [])

    def test_no_keys(self):
        self.told([], in_order, SHELF, TABLE, [], ["by"])

    def test_none_goes_ahead_of_every_text(self):
        shelf = {"a": ("k", {"t": " "}), "b": ("k", {}), "c": ("k", {"t": "A"}), "d": ("k", {})}
        self.told(["b", "d", "a", "c"], in_order, shelf, {}, ["a", "d", "c", "b"], ["t"])

    def test_a_note_without_signs_is_a_text(self):
        shelf = {"a": ("k", {"note": ""}), "b": ("k", {}), "c": ("k", {"note": "\n"})}
        self.told(["b", "a", "c"], in_order, shelf, {}, ["a", "b", "c"], ["note"])

    def test_texts_as_python_compares_them(self):
        texts = ["a", "B", "10", "9", "aa", "A", " a", "a "]
        shelf = {"k" * (place + 1): ("k", {"t": text}) for place, text in enumerate(texts)}
        told = in_order(shelf, {}, list(shelf), ["t"])
        self.assertEqual([shelf[key][1]["t"] for key in told], [" a", "10", "9", "A", "B", "a", "a ", "aa"])

    def test_the_first_field_in_which_they_differ(self):
        shelf = {"a": ("k", {"s": "x", "t": "2"}), "b": ("k", {"s": "x", "t": "1"}), "c": ("k", {"s": "w", "t": "3"}),
                 "d": ("k", {"s": "x"}), "e": ("k", {"t": "0"})}
        self.told(["e", "c", "d", "b", "a"], in_order, shelf, {}, list("abcde"), ["s", "t"])
        self.told(["d", "e", "b", "a", "c"], in_order, shelf, {}, list("abcde"), ["t", "s"])
        self.told(["e", "c", "d", "b", "a"], in_order, shelf, {}, list("edcba"), ["s", "s", "t", "absent"])

    def test_the_lesser_key_where_they_differ_in_none(self):
        shelf = {key: ("k", {"t": "T"}) for key in ("b", "aa", "a", "c")}
        for keys in itertools.permutations(["a", "aa", "b", "c"]):
            self.told(["a", "aa", "b", "c"], in_order, shelf, {}, list(keys), ["t", "absent"])

    def test_by_the_table(self):
        self.told(["bonn", "ulm", "rome"], in_order, SHELF, TABLE, ["rome", "ulm", "bonn"], ["year"])
        self.told(["bonn", "rome", "ulm"], in_order, SHELF, {}, ["rome", "ulm", "bonn"], ["town"])
        self.told(["kim", "bonn", "rome", "ulm"], in_order, SHELF, TABLE, ["ulm", "rome", "bonn", "kim"], ["book"])

    def test_just_the_keys_of_the_list(self):
        self.told(["bonn", "ulm"], in_order, SHELF, TABLE, ["ulm", "bonn"], [])

    def test_the_longest_list(self):
        keys = ["a" + first + second for first in "abcdefghij" for second in "abcdefghij"]
        shelf = {key: ("k", {"t": key[::-1]}) for key in keys}
        self.told(sorted(keys, key=lambda key: key[::-1]), in_order, shelf, {}, keys, ["t"])

    def test_rings(self):
        for keys, fields, ring in (
                (["own"], ["t"], RING_T), (["own", "two"], ["s"], RING_S), (["two", "own"], ["s"], RING_R),
                (["fine", "two", "own"], ["s"], RING_R), (["own"], ["s", "t"], RING_S), (["own"], ["t", "s"], RING_T),
                (["fine", "own"], ["u", "t"], RING_T), (["own", "two"], ["u", "r"], RING_R),
                (["two", "own"], ["u", "r"], RING_S)):
            self.refused(Ring, in_order, RINGS, RING_TABLE, keys, fields, ring=ring)

    def test_all_fields_are_asked_key_by_key(self):
        shelf = {"a": ("k", {"in": "a", "s": "S"}), "b": ("k", {"in": "b", "t": "T"})}
        table = {"k": [("t", "t"), ("s", "s")]}
        self.refused(Ring, in_order, shelf, table, ["a", "b"], ["s", "t"], ring=[("a", "t")])
        self.refused(Ring, in_order, shelf, table, ["b", "a"], ["t", "s"], ring=[("b", "s")])
        self.refused(Ring, in_order, shelf, table, ["a"], ["t"], ring=[("a", "t")])
        self.told(["a"], in_order, shelf, table, ["a"], ["s"])


class StepsOf(Case):

    def test_rows(self):
        ladder = STYLE["ladder"] + [STYLE["row"]]
        self.told([["Lee 1901", "A. Lee 1901", "Ann Lee. Of Ulm, in All Towns (1901)"],
                   ["Kim and others", "Kim, A. Lee and others", "Kim, Ann Lee and Rao. Alone"],
                   ["Rao 1999", "C. Rao 1999", "Cy Rao. Of Rome, in All Towns (1999)"],
                   [" 1901", " 1901", "All Towns (1901)"]],
                  steps_of, SHELF, TABLE, ["ulm", "kim", "rome", "all"], ladder)

    def test_no_keys(self):
        self.told([], steps_of, SHELF, TABLE, [], STYLE["ladder"])

    def test_a_template_without_pieces(self):
        self.told([[""], [""]], steps_of, SHELF, TABLE, ["ulm", "kim"], [()])

    def test_without_a_table(self):
        self.told([["Of Ulm"]], steps_of, SHELF, {}, ["ulm"], [STYLE["row"][1:2] + read_template("[ ({year})]")])

    def test_six_templates(self):
        ladder = [read_template("{name}" * number) for number in range(1, 7)]
        self.told([["Free" * number for number in range(1, 7)]], steps_of, SHELF, TABLE, ["free"], ladder)
        self.told([["Free"] * 7], steps_of, SHELF, TABLE, ["free"], ladder[:1] * 7)

    def test_rings(self):
        for keys, texts, ring in (
                (["own"], ["{t}"], RING_T), (["fine", "own"], ["{t}"], RING_T), (["own"], ["{u}", "{s}", "{t}"], RING_S),
                (["own"], ["{u}", "{t}", "{s}"], RING_T), (["own", "two"], ["{u}", "{s}"], RING_S),
                (["two", "own"], ["{u}", "{s}"], RING_R), (["own"], ["{s}{t}"], RING_S), (["own"], ["{t 1 1}{s}"], RING_T),
                (["fine", "two", "own"], ["{t}"], RING_T)):
            ladder = [read_template(text) for text in texts]
            self.refused(Ring, steps_of, RINGS, RING_TABLE, keys, ladder, ring=ring)

    def test_all_names_are_asked_needed_or_not(self):
        for text in ("{u|t}", "[{x}{t}]", "[{x}[{t}]]", "[{x}{t 1 1}]", "{u|x|t}"):
            self.refused(Ring, steps_of, RINGS, RING_TABLE, ["own"], [read_template(text)], ring=RING_T)
        self.refused(Ring, steps_of, RINGS, RING_TABLE, ["own"], [read_template("{u|r|t}")], ring=RING_R)
        self.told([["C"]], steps_of, RINGS, RING_TABLE, ["fine"], [read_template("{u|t}")])


class SetText(Case):

    def test_a_text_without_pointings(self):
        for text in ("", "x", "See: x;\ny. (there)"):
            self.told((text, []), set_text, SHELF, TABLE, STYLE, text)
            self.told((text, []), set_text, {}, {}, style(), text)

    def test_one_pointing(self):
        rows = [("last", "The Last (1901)")]
        for text, answer in (("<last>", "( 1901)"), ("x <last>.", "x ( 1901)."), ("<last 12-14>", "( 1901, 12-14)"),
                             ("<last  x>\n", "( 1901,  x)\n")):
            self.told((answer, rows), set_text, SHELF, TABLE, STYLE, text)

    def test_the_shortest_pointing_that_tells_just_one(self):
        self.told(("(Rao 1999) and (A. Lee 1901), (B. Lee 1901, 2); (Kim and others).", [
            ("all", "All Towns (1901)"),
            ("kim", "Kim, Ann Lee and Rao. Alone"),
            ("ulm", "Ann Lee. Of Ulm, in All Towns (1901)"),
            ("bonn", "Bo Lee. Of Bonn, in All Towns (1901)"),
            ("rome", "Cy Rao. Of Rome, in All Towns (1999)"),
        ]), set_text, SHELF, TABLE, STYLE, "<rome> and <ulm>, <bonn 2>; <kim>.")

    def test_alone_the_lower_step_is_enough(self):
        self.told(("(Lee 1901)", [("bonn", "Bo Lee. Of Bonn, in All Towns (1901)")]),
                  set_text, SHELF, TABLE, STYLE, "<bonn>")

    def test_a_work_that_is_listed_by_a_note_is_a_rival(self):
        shelf = {"a": ("k", {"t": "x", "s": "1", "note": "<b>"}), "b": ("k", {"t": "x", "s": "2"})}
        short = style(["{t}", "{t}{s}"], "{s}")
        self.told(("(x1)", [("a", "1"), ("b", "2")]), set_text, shelf, {}, short, "<a>")
        self.told(("(x)", [("b", "2")]), set_text, shelf, {}, short, "<b>")

    def test_many(self):
        shelf = {"a": ("k", {"in": "c"}), "b": ("k", {"in": "c"}), "c": ("k", {})}
        for many, keys in ((1, "abc"), (2, "abc"), (3, "ab"), (10 ** 59, "ab")):
            told = set_text(shelf, {}, style(many=many), "<a><b>")
            self.assertEqual([key for key, row in told[1]], list(keys))

    def test_there(self):
        shelf = {key: ("k", {"t": key.upper()}) for key in "ab"}
        for text, answer in (
                ("<a><a>", "(A)(there)"), ("<a> x <a> y <a>", "(A) x (there) y (there)"),
                ("<a 1><a>", "(A, 1)(there)"), ("<a><a 1>", "(A)(there, 1)"), ("<a 1><a 1>", "(A, 1)(there, 1)"),
                ("<a><b><a>", "(A)(B)(A)"), ("<a><b><b 2><a><a>\n<a 3>", "(A)(B)(there, 2)(A)(there)\n(there, 3)"),
                ("<b>:\n\n<b  >", "(B):\n\n(there,  )")):
            told = set_text(shelf, {}, style(["{t}"], "{t}"), text)
            self.assertEqual(told[0], answer)

    def test_letters(self):
        shelf = {key: ("k", {"t": "x", "s": text}) for key, text in (("a", "2"), ("b", "1"), ("c", "3"))}
        shelf["d"] = ("k", {"t": "y"})
        self.told(("(x^b) (x^a, 7) (there) (y) (x^c)", [("d", "y, "), ("b", "x, 1 ^a"), ("a", "x, 2 ^b"), ("c", "x, 3 ^c")]),
                  set_text, shelf, {}, style(["{t}"], "{t}, {s}", ["s"]), "<a> <b 7> <b> <d> <c>")

    def test_letters_without_texts(self):
        shelf = {key: ("k", {}) for key in "ba"}
        self.told(("(^b)(^a, x)", [("a", " ^a"), ("b", " ^b")]), set_text, shelf, {}, style(), "<b><a x>")
        self.told(("()(there, x)", [("a", "")]), set_text, shelf, {}, style(), "<a><a x>")

    def test_letters_of_the_greatest_shelf(self):
        keys = [first + second for first in "abcde" for second in "abcdefgh"]
        shelf = {key: ("k", {"t": "x"}) for key in keys}
        told = set_text(shelf, {}, style(["{t}", "{t}."], "{t}"), "".join(["<" + key + ">" for key in keys]))
        self.assertEqual(told[0], "".join(["(x.^" + letter(number) + ")" for number in range(40)]))
        self.assertEqual(told[1], [(key, "x ^" + letter(number)) for number, key in enumerate(keys)])
        self.assertEqual(told[1][-1], ("eh", "x ^an"))

    def test_the_order_is_that_of_the_style(self):
        shelf = {"a": ("k", {"t": "3"}), "b": ("k", {"t": "1"}), "c": ("k", {}), "d": ("k", {"t": "1"})}
        told = set_text(shelf, {}, style(["{t}"], "{t}", ["t"]), "<a><d><b><c>")
        self.assertEqual(told[1], [("c", ""), ("b", "1 ^a"), ("d", "1 ^b"), ("a", "3")])

    def test_no_text_is_refused(self):
        for value in (None, 1, True, [], ["x"], (), {}, b"<a>", "<", ">", "<a", "^", "<Gone>", "<gone> ^", "<gone >"):
            self.refused(NoText, set_text, SHELF, TABLE, STYLE, value)
            self.refused(NoText, set_text, {}, {}, style(), value)

    def test_no_text_goes_ahead_of_the_others(self):
        self.refused(NoText, set_text, RINGS, RING_TABLE, style(["{t}"], "{t}", ["t"]), "<own> <gone> ^")

    def test_no_work(self):
        for text, key in (("<gone>", "gone"), ("<ulm> <gone> <away>", "gone"), ("<away 1><gone>", "away"),
                          ("<kim><in><kim><gone>", "in")):
            self.refused(NoWork, set_text, SHELF, TABLE, STYLE, text, key=key)
        self.refused(NoWork, set_text, {}, {}, style(), "<ulm>", key="ulm")

    def test_no_work_goes_ahead_of_rings(self):
        self.refused(NoWork, set_text, RINGS, RING_TABLE, style(["{t}"], "{t}", ["t"]), "<own><gone>", key="gone")

    def test_a_note_to_what_is_not_there_is_not_refused(self):
        told = set_text(SHELF, TABLE, STYLE, "<ulm>")
        self.assertEqual([key for key, row in told[1]], ["kim", "ulm"])

    def test_rings_by_the_order_go_first(self):
        rings = style(["{t}"], "{t}", ["u", "s"])
        self.refused(Ring, set_text, RINGS, RING_TABLE, rings, "<own><two>", ring=RING_S)
        self.refused(Ring, set_text, RINGS, RING_TABLE, rings, "<fine><two><own>", ring=RING_R)

    def test_rings_by_the_order_come_in_the_order_of_the_listing(self):
        shelf = dict(RINGS, fine=("j", {"note": "<two><own>", "r": "R", "s": "S", "u": "U"}))
        self.refused(Ring, set_text, shelf, RING_TABLE, style(order=["s"]), "<fine>", ring=RING_S)
        self.refused(Ring, set_text, shelf, RING_TABLE, style(order=["s"]), "<two><fine>", ring=RING_R)

    def test_rings_by_the_ladder_come_in_the_lists_order(self):
        for order, ring in (([], RING_S), (["u"], RING_R)):
            for text in ("<own><two>", "<two><own>"):
                self.refused(Ring, set_text, RINGS, RING_TABLE, style(["{u}", "{s}", "{t}"], "{t}", order), text,
                             ring=ring)
        self.refused(Ring, set_text, RINGS, RING_TABLE, style(["{t}", "{s}"], "{s}"), "<own>", ring=RING_T)

    def test_rings_by_the_rows_come_last(self):
        for order, ring in (([], RING_S), (["u"], RING_R)):
            for text in ("<own><two><fine>", "<fine><two><own>"):
                self.refused(Ring, set_text, RINGS, RING_TABLE, style(["{u}"], "{u}[{x}{s}]", order), text, ring=ring)
        self.refused(Ring, set_text, RINGS, RING_TABLE, style(["{u|t}"], "{s}"), "<own>", ring=RING_T)

    def test_a_ring_of_a_work_that_is_not_listed_is_not_asked(self):
        self.told(("(T)", [("fine", "S")]), set_text, RINGS, RING_TABLE, style(["{t}"], "{s}", ["r"]), "<fine>")

    def test_the_promise(self):
        texts = ({"t": "x"}, {"t": "x", "s": "1"}, {"t": "y", "s": "1"}, {"s": "x"}, {"t": "x", "note": "<a><b>"})
        short = style(["{t}", "{s|t}", "{t}{s}"], "{t}", ["s"])
        for chosen in itertools.product(texts, repeat=3):
            shelf = {key: ("k", fields) for key, fields in zip("abc", chosen)}
            self.check_promise(shelf, short, "<c> <a>")

    def check_promise(self, shelf, short, text):
        told = set_text(shelf, {}, short, text)
        keys = [key for key, row in told[1]]
        rows = steps_of(shelf, {}, keys, short["ladder"])
        self.assertEqual(keys, in_order(shelf, {}, [one[0] for one in listed(shelf, ["c", "a"], 2)], ["s"]))
        points = [told[0].partition(") (")[0][1:], told[0].partition(") (")[2][:-1]]
        for key, pointing in zip("ca", points):
            place = keys.index(key)
            self.assertEqual(pointing, pointings(rows)[place])
            step = step_of(rows, place)
            if step is None:
                self.assertEqual(told[1][place][1], shelf[key][1].get("t", "") + " ^" + pointing.partition("^")[2])
                continue
            self.assertEqual(fits(rows, pointing), [place])
            for lower in range(step):
                other = rival(rows, place, lower)
                self.assertEqual(rows[other[0]][other[1]], rows[place][lower])
                self.assertNotEqual(other[0], place)

    def test_a_long_text(self):
        text = "<ulm>, <kim 3>;\n" * 1200
        self.assertEqual(len(read_text(text)), 4800)
        self.assertEqual(set_text(SHELF, TABLE, STYLE, text)[0], "(Lee 1901), (Kim and others, 3);\n" * 1200)


if __name__ == "__main__":
    unittest.main()
