import copy
import unittest

from citeward.errors import Ring
from citeward.shelves import all_had, had, way

SHELF = {
    "part": ("part", {"title": "A part", "in": "book", "note": ""}),
    "book": ("book", {"name": "A book", "in": "row", "hands": "Lee, Ann"}),
    "row": ("row", {"town": "Ulm", "year": "1901"}),
    "lone": ("part", {"title": "Alone"}),
    "lost": ("part", {"title": "Lost", "in": "nowhere"}),
    "free": ("paper", {"title": "Free", "in": "book"}),
    "self": ("self", {"in": "self", "b": "text of b"}),
    "deep": ("deep", {"in": "part"}),
}
TABLE = {
    "part": [("book", "name"), ("town", "town"), ("of", "in"), ("two", "hands"), ("two", "name"),
             ("dull", "nothing"), ("dull", "name"), ("title", "name"), ("name", "name")],
    "book": [("town", "town"), ("year", "town"), ("year", "year"), ("nothing", "gone")],
    "self": [("a", "b"), ("c", "d"), ("e", "f"), ("f", "a")],
    "deep": [("book", "book"), ("of", "of"), ("town", "town"), ("title", "title")],
    "row": [("gone", "town")],
}

# The ring of "one" begins with the way; that of "ahead" stands behind some pairs of it.
RINGS = {
    "one": ("k", {"in": "two"}),
    "two": ("k", {"in": "three"}),
    "three": ("j", {"in": "one", "x": "X"}),
    "ahead": ("head", {"in": "step"}),
    "step": ("head", {"in": "two"}),
    "own": ("k", {"in": "own", "g": "G"}),
}
RING_TABLE = {
    "k": [("f", "f"), ("g", "h"), ("h", "g"), ("m", "n"), ("n", "m"), ("x", "x")],
    "j": [("f", "f"), ("g", "h"), ("h", "g"), ("m", "m")],
    "head": [("y", "z"), ("z", "f"), ("x", "x")],
}


class Case(unittest.TestCase):

    def setUp(self):
        self.handed = (SHELF, TABLE, RINGS, RING_TABLE)
        self.before = copy.deepcopy(self.handed)

    def tearDown(self):
        self.assertEqual(self.handed, self.before)

    def check(self, key, field, pairs, text, shelf=SHELF, table=TABLE):
        with self.subTest(key=key, field=field):
            self.assertEqual(way(shelf, table, key, field), pairs)
            self.assertEqual(had(shelf, table, key, field), text)
            fields = [field]
            self.assertEqual(all_had(shelf, table, key, fields), {} if text is None else {field: text})
            self.assertEqual(fields, [field])

    def check_ring(self, key, field, ring, shelf=RINGS, table=RING_TABLE):
        asked = (lambda: way(shelf, table, key, field),
                 lambda: had(shelf, table, key, field),
                 lambda: all_had(shelf, table, key, [field]))
        for ask in asked:
            with self.subTest(key=key, field=field):
                with self.assertRaises(Ring) as caught:
                    ask()
                self.assertEqual(caught.exception.ring, ring)


class Ways(Case):

    def test_a_field_of_its_own(self):
        self.check("part", "in", [("part", "in")], "book")
        self.check("row", "town", [("row", "town")], "Ulm")

    def test_its_own_goes_ahead_of_the_table(self):
        self.check("part", "title", [("part", "title")], "A part")
        self.check("self", "b", [("self", "b")], "text of b")

    def test_of_another_work(self):
        self.check("part", "book", [("part", "book"), ("book", "name")], "A book")
        self.check("part", "name", [("part", "name"), ("book", "name")], "A book")

    def test_over_several_works(self):
        self.check("part", "town", [("part", "town"), ("book", "town"), ("row", "town")], "Ulm")
        self.check("deep", "town", [("deep", "town"), ("part", "town"), ("book", "town"), ("row", "town")], "Ulm")
        self.check("deep", "book", [("deep", "book"), ("part", "book"), ("book", "name")], "A book")
        self.check("deep", "title", [("deep", "title"), ("part", "title")], "A part")

    def test_the_first_of_several_pairs(self):
        self.check("part", "two", [("part", "two"), ("book", "hands")], "Lee, Ann")
        self.check("book", "year", [("book", "year"), ("row", "town")], "Ulm")

    def test_the_first_of_several_pairs_where_it_leads_to_nothing(self):
        self.check("part", "dull", [("part", "dull"), ("book", "nothing"), ("row", "gone")], None)

    def test_no_list_for_the_kind(self):
        self.check("free", "name", [("free", "name")], None)
        self.check("part", "book", [("part", "book")], None, table={})

    def test_an_empty_list_for_the_kind(self):
        self.check("part", "book", [("part", "book")], None, table={"part": []})

    def test_no_pair_for_the_field(self):
        self.check("part", "year", [("part", "year")], None)
        self.check("self", "d", [("self", "d")], None)

    def test_no_in(self):
        self.check("lone", "book", [("lone", "book")], None)
        self.check("row", "gone", [("row", "gone")], None)

    def test_an_in_that_is_no_key(self):
        self.check("lost", "book", [("lost", "book")], None)
        shelf = {"a": ("part", {"in": "No key, 1"})}
        self.check("a", "book", [("a", "book")], None, shelf=shelf)

    def test_a_pair_that_leads_to_in(self):
        self.check("part", "of", [("part", "of"), ("book", "in")], "row")
        self.check("deep", "of", [("deep", "of"), ("part", "of"), ("book", "in")], "row")

    def test_a_pair_that_leads_to_an_in_that_is_not_there(self):
        shelf = {"a": ("k", {"in": "b"}), "b": ("k", {})}
        table = {"k": [("of", "in"), ("in", "of")]}
        self.check("a", "of", [("a", "of"), ("b", "in")], None, shelf=shelf, table=table)
        self.check("b", "in", [("b", "in")], None, shelf=shelf, table=table)

    def test_in_is_not_handed_down_on_the_way(self):
        shelf = {"a": ("k", {"in": "b"}), "b": ("k", {}), "c": ("k", {"t": "T"})}
        table = {"k": [("t", "t"), ("in", "in")]}
        self.check("a", "t", [("a", "t"), ("b", "t")], None, shelf=shelf, table=table)

    def test_a_work_that_is_in_itself(self):
        self.check("self", "a", [("self", "a"), ("self", "b")], "text of b")
        self.check("self", "c", [("self", "c"), ("self", "d")], None)
        self.check("self", "e", [("self", "e"), ("self", "f"), ("self", "a"), ("self", "b")], "text of b")
        self.check("self", "in", [("self", "in")], "self")

    def test_a_work_twice_by_unlike_fields_is_no_ring(self):
        shelf = {"a": ("k", {"in": "b"}), "b": ("k", {"in": "a"})}
        table = {"k": [("p", "q"), ("q", "r")]}
        self.check("a", "p", [("a", "p"), ("b", "q"), ("a", "r")], None, shelf=shelf, table=table)

    def test_the_table_is_asked_by_the_kind_of_each_work(self):
        shelf = {"a": ("k", {"in": "b"}), "b": ("j", {"in": "c"}), "c": ("k", {"s": "of s", "t": "of t"})}
        table = {"k": [("t", "s")], "j": [("s", "t")]}
        self.check("a", "t", [("a", "t"), ("b", "s"), ("c", "t")], "of t", shelf=shelf, table=table)

    def test_a_note(self):
        self.check("part", "note", [("part", "note")], "")
        self.check("book", "note", [("book", "note")], None)

    def test_a_field_that_no_work_has(self):
        self.check("book", "nothing", [("book", "nothing"), ("row", "gone")], None)
        self.check("part", "absent", [("part", "absent")], None)
        self.check("part", "kind", [("part", "kind")], None)

    def test_the_longest_shelf(self):
        keys = [first + second for first in "abcde" for second in "abcdefgh"]
        shelf = {key: ("k", {"in": behind}) for key, behind in zip(keys, keys[1:])}
        shelf[keys[-1]] = ("k", {"t": "T"})
        self.check("aa", "t", [(key, "t") for key in keys], "T", shelf=shelf, table={"k": [("t", "t")]})

    def test_the_way_is_the_askers_own(self):
        first = way(SHELF, TABLE, "part", "town")
        second = way(SHELF, TABLE, "part", "town")
        first.clear()
        self.assertEqual(second, [("part", "town"), ("book", "town"), ("row", "town")])
        self.assertEqual(way(SHELF, TABLE, "part", "town"), second)

    def test_kinds(self):
        told = way(SHELF, TABLE, "part", "town")
        self.assertIs(type(told), list)
        self.assertEqual([type(pair) for pair in told], [tuple, tuple, tuple])


class Rings(Case):

    def test_at_the_beginning(self):
        self.check_ring("one", "f", [("one", "f"), ("two", "f"), ("three", "f")])
        self.check_ring("two", "f", [("two", "f"), ("three", "f"), ("one", "f")])

    def test_behind_some_pairs(self):
        self.check_ring("ahead", "z", [("step", "f")], table={"head": [("z", "f"), ("f", "f")]},
                        shelf={"ahead": ("head", {"in": "step"}), "step": ("head", {"in": "step"})})
        self.check_ring("step", "z", [("two", "f"), ("three", "f"), ("one", "f")])
        self.check_ring("ahead", "y", [("two", "f"), ("three", "f"), ("one", "f")],
                        table=dict(RING_TABLE, head=[("y", "z"), ("z", "f")]))

    def test_more_than_once_round_the_works(self):
        self.check_ring("one", "g", [("one", "g"), ("two", "h"), ("three", "g"), ("one", "h"), ("two", "g"),
                                     ("three", "h")])
        self.check_ring("one", "m", [("one", "m"), ("two", "n"), ("three", "m")])

    def test_of_one_pair(self):
        self.check_ring("own", "f", [("own", "f")])

    def test_of_two_fields_of_one_work(self):
        self.check_ring("own", "m", [("own", "m"), ("own", "n")])
        self.check_ring("own", "n", [("own", "n"), ("own", "m")])

    def test_a_work_that_has_the_field_ends_the_way_ahead_of_a_ring(self):
        self.check("own", "h", [("own", "h"), ("own", "g")], "G", shelf=RINGS, table=RING_TABLE)
        self.check("one", "x", [("one", "x"), ("two", "x"), ("three", "x")], "X", shelf=RINGS, table=RING_TABLE)
        self.check("ahead", "x", [("ahead", "x"), ("step", "x"), ("two", "x"), ("three", "x")], "X",
                   shelf=RINGS, table=RING_TABLE)

    def test_the_ring_is_the_askers_own(self):
        with self.assertRaises(Ring) as first:
            way(RINGS, RING_TABLE, "own", "f")
        first.exception.ring.clear()
        with self.assertRaises(Ring) as second:
            way(RINGS, RING_TABLE, "own", "f")
        self.assertEqual(second.exception.ring, [("own", "f")])

    def test_kinds(self):
        with self.assertRaises(Ring) as caught:
            way(RINGS, RING_TABLE, "one", "f")
        self.assertIs(type(caught.exception.ring), list)
        self.assertEqual([type(pair) for pair in caught.exception.ring], [tuple, tuple, tuple])


class AllHad(Case):

    def check_all(self, key, fields, texts, shelf=SHELF, table=TABLE):
        before = list(fields)
        self.assertEqual(all_had(shelf, table, key, fields), texts)
        self.assertEqual(fields, before)

    def test_own_and_of_others(self):
        self.check_all("part", ["title", "book", "town", "two"],
                       {"title": "A part", "book": "A book", "town": "Ulm", "two": "Lee, Ann"})

    def test_what_it_has_not_is_left_out(self):
        self.check_all("part", ["absent", "title", "dull", "year"], {"title": "A part"})
        self.check_all("free", ["name", "absent"], {})

    def test_just_the_fields_that_are_asked(self):
        self.check_all("row", ["year"], {"year": "1901"})

    def test_a_text_without_signs_is_had(self):
        self.check_all("part", ["note"], {"note": ""})

    def test_an_empty_list(self):
        self.check_all("part", [], {})
        self.check_all("own", [], {}, shelf=RINGS, table=RING_TABLE)

    def test_a_field_twice(self):
        self.check_all("row", ["year", "town", "year"], {"year": "1901", "town": "Ulm"})

    def test_asked_in_the_order_of_the_list(self):
        rings = {"f": [("own", "f")], "m": [("own", "m"), ("own", "n")], "n": [("own", "n"), ("own", "m")]}
        for fields in (["f", "m", "n"], ["m", "f"], ["n", "m", "f"], ["g", "absent", "m", "f"], ["h", "f", "m"]):
            with self.subTest(fields=fields):
                first = [field for field in fields if field in rings][0]
                before = list(fields)
                with self.assertRaises(Ring) as caught:
                    all_had(RINGS, RING_TABLE, "own", fields)
                self.assertEqual(caught.exception.ring, rings[first])
                self.assertEqual(fields, before)

    def test_the_dict_is_the_askers_own(self):
        shelf = {"a": ("k", {"s": "S", "t": "T"})}
        first = all_had(shelf, {}, "a", ["s", "t"])
        second = all_had(shelf, {}, "a", ["s", "t"])
        first["s"] = "other"
        first["new"] = "other"
        self.assertEqual(second, {"s": "S", "t": "T"})
        self.assertEqual(all_had(shelf, {}, "a", ["s", "t"]), {"s": "S", "t": "T"})
        self.assertEqual(shelf, {"a": ("k", {"s": "S", "t": "T"})})
        shelf["a"][1]["s"] = "later"
        self.assertEqual(second, {"s": "S", "t": "T"})
        self.assertEqual(had(shelf, {}, "a", "s"), "later")


if __name__ == "__main__":
    unittest.main()
