import copy
import itertools
import unittest

from support import Case

from citeward.ladder import letter
from citeward.pools import heap_of, pool_of, pour, shelf_of, tells

SHELF = {
    "ulm": ("part", {"by": "Lee, Ann", "title": "Of Ulm", "in": "towns", "note": "See <kim>."}),
    "twin": ("part", {"by": "Lee, Ann", "title": "Of Ulm", "year": "1901"}),
    "towns": ("book", {"title": "Towns"}),
}
POOL = [
    ([("one", "towns")], [(1, ("book", "Towns"))],
     [("kind", "book", [("one", "towns")]), ("title", "Towns", [("one", "towns")])]),
    ([("one", "twin"), ("one", "ulm")], [(0, ("Lee, Ann", "Of Ulm")), (1, ("part", "Of Ulm"))],
     [("by", "Lee, Ann", [("one", "twin"), ("one", "ulm")]), ("in", "towns", [("one", "ulm")]),
      ("kind", "part", [("one", "twin"), ("one", "ulm")]), ("title", "Of Ulm", [("one", "twin"), ("one", "ulm")]),
      ("year", "1901", [("one", "twin")])]),
]
RULES = [["by", "title"], ["kind", "title"]]


def heap(names, marks=(), **fields):
    """A heap of names as texts ("ax" is the pair of a and x), and of fields that all its names tell."""
    pairs = sorted((name[0], name[1:]) for name in names.split())
    triples = sorted((field, value, list(pairs)) for field, value in fields.items())
    return (pairs, sorted(marks), triples)


def mark(text, number=0):
    return (number, (text,))


def slow_join(one, other):
    """The join of two heaps as the document says it."""
    told = {}
    for field, value, names in one[2] + other[2]:
        told.setdefault((field, value), set()).update(names)
    return (sorted(set(one[0]) | set(other[0])), sorted(set(one[1]) | set(other[1])),
            sorted((field, value, sorted(names)) for (field, value), names in told.items()))


def slow_pool(heaps):
    heaps = copy.deepcopy(heaps)
    for one, other in itertools.combinations(range(len(heaps)), 2):
        if set(heaps[one][0]) & set(heaps[other][0]) or set(heaps[one][1]) & set(heaps[other][1]):
            left = [heaps[place] for place in range(len(heaps)) if place not in (one, other)]
            return slow_pool(left + [slow_join(heaps[one], heaps[other])])
    return sorted(heaps)


def small_shelves():
    """Each shelf of the keys x and y by works that have the same, unlike or no texts."""
    works = [("k", {}), ("k", {"s": "1"}), ("k", {"t": "1"}), ("j", {"s": "1", "t": "1"}), ("k", {"s": "2", "t": "1"})]
    for first, second in itertools.product(works + [None], repeat=2):
        yield {key: work for key, work in (("x", first), ("y", second)) if work is not None}


class CasePools(Case):

    def check_pool(self, pool):
        """What the document says of each pool."""
        self.assertEqual(pool, sorted(pool))
        for names, marks, fields in pool:
            self.assertGreater(len(names), 0)
            for things in (names, marks, [triple[:2] for triple in fields]):
                self.assertEqual(things, sorted(set(things)))
            for field, value, told_by in fields:
                self.assertEqual(told_by, sorted(set(told_by)))
                self.assertLessEqual(set(told_by), set(names))
        for one, other in itertools.combinations(pool, 2):
            self.assertFalse(set(one[0]) & set(other[0]))
            self.assertFalse(set(one[1]) & set(other[1]))


class PoolOf(CasePools):

    def test_twins_and_others(self):
        self.told(POOL, pool_of, "one", SHELF, RULES)

    def test_no_works(self):
        self.told([], pool_of, "one", {}, RULES)
        self.told([], pool_of, "one", {}, [])

    def test_no_rules(self):
        pool = pool_of("one", SHELF, [])
        self.assertEqual([(names, marks) for names, marks, fields in pool],
                         [([("one", "towns")], []), ([("one", "twin")], []), ([("one", "ulm")], [])])
        self.told(pool, pool_of, "one", SHELF, [])

    def test_a_work_without_fields(self):
        self.told([heap("bx", kind="k")], pool_of, "b", {"x": ("k", {})}, [["t"]])
        self.told([heap("bx", [(0, ("k",))], kind="k")], pool_of, "b", {"x": ("k", {})}, [["kind"]])

    def test_the_note_is_no_field_of_a_heap(self):
        self.told([heap("bx", kind="k", t="T")], pool_of, "b", {"x": ("k", {"note": "<x>", "t": "T"})}, [])
        self.told([heap("bx", kind="k")], pool_of, "b", {"x": ("k", {"note": ""})}, [])

    def test_a_rule_may_ask_for_the_note(self):
        shelf = {"x": ("k", {"note": "n\n"}), "y": ("k", {"note": "n\n"}), "z": ("k", {})}
        self.told([heap("bx by", [(0, ("n\n",))], kind="k"), heap("bz", kind="k")], pool_of, "b", shelf, [["note"]])

    def test_a_mark_needs_all_fields_of_its_rule(self):
        shelf = {"x": ("k", {"s": "S", "t": "T"}), "y": ("k", {"s": "S"}), "z": ("k", {"t": "T"})}
        for rules, marks in (
                ([["s", "t"]], [[(0, ("S", "T"))], [], []]),
                ([["t", "s"]], [[(0, ("T", "S"))], [], []]),
                ([["u"], ["t", "s", "kind"]], [[(1, ("T", "S", "k"))], [], []]),
                ([["u"], ["s", "s", "t"], ["kind", "t", "s"]], [[(1, ("S", "S", "T")), (2, ("k", "T", "S"))], [], []]),
                ([["u"]], [[], [], []])):
            self.assertEqual([one[1] for one in pool_of("b", shelf, rules)], marks)

    def test_just_the_same_texts_make_twins(self):
        for text, other in (("a", "A"), ("a", "a "), ("a", "b"), ("", " ")):
            shelf = {"x": ("k", {"t": text}), "y": ("k", {"t": other})}
            self.assertEqual(len(pool_of("b", shelf, [["t"]])), 2)

    def test_its_own_texts_alone(self):
        shelf = {"x": ("k", {"in": "y"}), "y": ("k", {"t": "T"}), "z": ("k", {"t": "T", "in": "y"})}
        self.assertEqual([one[0] for one in pool_of("b", shelf, [["t"]])], [[("b", "x")], [("b", "y"), ("b", "z")]])

    def test_the_same_text_by_another_rule_or_field_joins_nothing(self):
        shelf = {"x": ("k", {"s": "T"}), "y": ("k", {"t": "T"})}
        self.assertEqual([one[1] for one in pool_of("b", shelf, [["s"], ["t"]])], [[(0, ("T",))], [(1, ("T",))]])
        self.assertEqual(len(pool_of("b", {"x": ("k", {"s": "a", "t": "b"}), "y": ("k", {"s": "b", "t": "a"})},
                                     [["s", "t"]])), 2)

    def test_joined_by_way_of_a_third(self):
        # w and z have nothing in common, nor have w and y, nor x and z.
        works = {"w": {"s": "1"}, "x": {"s": "1", "t": "2"}, "y": {"t": "2", "u": "3"}, "z": {"u": "3"}}
        for keys in itertools.permutations("wxyz"):
            shelf = {key: ("k", works[key]) for key in keys}
            pool = pool_of("b", shelf, [["s"], ["t"], ["u"]])
            self.assertEqual([one[0] for one in pool], [[("b", key) for key in "wxyz"]])
            self.assertEqual(pool[0][1], [(0, ("1",)), (1, ("2",)), (2, ("3",))])
            self.assertEqual(pool[0][2][1:], [("s", "1", [("b", "w"), ("b", "x")]), ("t", "2", [("b", "x"), ("b", "y")]),
                                              ("u", "3", [("b", "y"), ("b", "z")])])

    def test_two_values_of_one_field(self):
        shelf = {"x": ("k", {"t": "T", "y": "2"}), "y": ("j", {"t": "T", "y": "1"})}
        self.told([([("b", "x"), ("b", "y")], [(0, ("T",))],
                    [("kind", "j", [("b", "y")]), ("kind", "k", [("b", "x")]), ("t", "T", [("b", "x"), ("b", "y")]),
                     ("y", "1", [("b", "y")]), ("y", "2", [("b", "x")])])], pool_of, "b", shelf, [["t"]])

    def test_names_and_heaps_are_sorted(self):
        shelf = {key: ("k", {"t": text}) for key, text in (("z", "1"), ("b", "2"), ("ab", "1"), ("a", "3"), ("y", "2"))}
        for keys in itertools.permutations(shelf):
            pool = pool_of("b", {key: shelf[key] for key in keys}, [["t"]])
            self.assertEqual([[name[1] for name in one[0]] for one in pool], [["a"], ["ab", "z"], ["b", "y"]])

    def test_marks_are_sorted_by_their_number(self):
        rules = [["t"]] * 6
        rules[0] = ["u"]
        self.told([heap("bx", [(number, ("T",)) for number in range(1, 6)] + [(0, ("U",))], kind="k", t="T", u="U")],
                  pool_of, "b", {"x": ("k", {"t": "T", "u": "U"})}, rules)

    def test_the_greatest_book(self):
        keys = [first + second for first in "abcde" for second in "abcdefgh"]
        names = list("abcdefghijkl")
        shelf = {key: ("k", {name: name for name in names}) for key in keys}
        rules = [["kind"] + names[:number] for number in range(6)]
        pool = pool_of("b", shelf, rules)
        self.assertEqual([one[0] for one in pool], [[("b", key) for key in keys]])
        self.assertEqual([len(part) for part in pool[0]], [40, 6, 13])
        alone = {key: ("k", {"t": key}) for key in keys + ["zz"]}
        self.assertEqual([one[0] for one in pool_of("b", alone, [["t"]] * 7)], [[("b", key)] for key in keys + ["zz"]])

    def test_each_small_shelf(self):
        for shelf in small_shelves():
            for rules in ([], [["s"]], [["s"], ["t"]], [["s", "t"]], [["kind"], ["t", "s"]]):
                pool = pool_of("b", shelf, rules)
                self.check_pool(pool)
                alone = [pool_of("b", {key: work}, rules)[0] for key, work in shelf.items()]
                self.assertEqual(pool, slow_pool(alone))
                self.assertEqual(sorted(name for one in pool for name in one[0]), [("b", key) for key in sorted(shelf)])


class Pour(CasePools):

    def test_nothing_in_common(self):
        one, other = [heap("ax", [mark("1")], t="1")], [heap("bx", [mark("2")], t="1")]
        self.told([one[0], other[0]], pour, one, other)
        self.told([one[0], other[0]], pour, other, one)

    def test_a_mark_in_common(self):
        one = [heap("ax", [mark("1")], kind="k", t="T")]
        other = [heap("bx", [mark("1"), mark("2")], kind="k", t="U")]
        both = [("a", "x"), ("b", "x")]
        answer = [(both, [mark("1"), mark("2")], [("kind", "k", both), ("t", "T", both[:1]), ("t", "U", both[1:])])]
        self.told(answer, pour, one, other)
        self.told(answer, pour, other, one)

    def test_a_name_in_common(self):
        one, other = [heap("ax", [mark("1")], t="T")], [heap("ax", [mark("2")], t="U", s="T")]
        name = [("a", "x")]
        answer = [(name, [mark("1"), mark("2")], [("s", "T", name), ("t", "T", name), ("t", "U", name)])]
        self.told(answer, pour, one, other)
        self.told(answer, pour, other, one)

    def test_the_same_field_and_mark_by_another_number_or_form(self):
        one, other = [heap("ax", [(0, ("1", "2"))], t="T")], [heap("bx", [(1, ("1", "2")), (0, ("12",))], t="T")]
        self.told([one[0], other[0]], pour, one, other)
        self.told([one[0], heap("xa")], pour, one, [heap("xa")])

    def test_marks_of_any_whole_number_and_texts(self):
        marks = [(-3, ()), (0, ("", "\n")), (10 ** 59, ("x",))]
        answer = [(sorted([("a", "x"), ("b", "y")]), marks, [])]
        for shared in marks:
            one, other = [heap("ax", [shared])], [heap("by", marks)]
            self.told(answer, pour, one, other)
            self.told(answer, pour, other, one)

    def test_no_heaps(self):
        self.told([], pour, [], [])
        self.told(POOL, pour, POOL, [])
        self.told(POOL, pour, [], POOL)

    def test_a_pool_with_itself(self):
        self.told(POOL, pour, POOL, POOL)
        self.told(POOL, pour, POOL, copy.deepcopy(POOL))
        for shelf in small_shelves():
            pool = pool_of("b", shelf, [["s"], ["t"]])
            self.told(pool, pour, pool, pool)

    def test_once_more_the_same(self):
        one, other = pool_of("a", SHELF, RULES), pool_of("b", SHELF, RULES[1:])
        both = pour(one, other)
        for pool in (one, other, both):
            self.told(both, pour, both, pool)
            self.told(both, pour, pool, both)

    def test_joined_only_by_way_of_a_third(self):
        # Two heaps of the one pool have nothing in common but a heap of the other.
        one = [heap("ax", [mark("1")], t="1"), heap("ay", [mark("2")], t="2")]
        third = [heap("bz", [mark("1"), mark("2")])]
        names = [("a", "x"), ("a", "y"), ("b", "z")]
        answer = [(names, [mark("1"), mark("2")], [("t", "1", names[:1]), ("t", "2", names[1:2])])]
        self.told(answer, pour, one, third)
        self.told(answer, pour, third, one)
        self.told(answer, pour, one[:1] + [heap("bz", [mark("2")])], [one[1], heap("bz", [mark("1")])])

    def test_a_long_chain(self):
        keys = [first + second for first in "abcdefghij" for second in "abcdefghij"]
        links = [heap("x" + key, [mark(str(place)), mark(str(place + 1))]) for place, key in enumerate(keys)]
        for cut in (links[::2], links[1::2]), (links[:50], links[50:]), (links[3::7], links), (links, links[::-1]):
            pool = pour(*cut)
            self.assertEqual(len(pool), 1)
            self.assertEqual(pool[0][0], [("x", key) for key in keys])
            self.assertEqual(len(pool[0][1]), 101)
        self.assertEqual(len(pour(links[::2], [])), 50)
        self.assertEqual(len(pour(links[::4], links[1::4])), 25)

    def test_two_chains_stay_two(self):
        one = [heap("aw", [mark("1")]), heap("ax", [mark("2")])]
        other = [heap("by", [mark("1")]), heap("bz", [mark("2")])]
        self.told([heap("aw by", [mark("1")]), heap("ax bz", [mark("2")])], pour, one, other)

    def test_the_heaps_are_put_in_order(self):
        one, other = [heap("ax"), heap("cx", [mark("1")])], [heap("bx"), heap("bz", [mark("1")]), heap("dx")]
        self.assertEqual([one[0] for one in pour(one, other)],
                         [[("a", "x")], [("b", "x")], [("b", "z"), ("c", "x")], [("d", "x")]])

    def test_three_pools_in_every_order_and_grouping(self):
        rules = [["s"], ["t"]]
        pools = [[pool_of(book, shelf, rules) for shelf in list(small_shelves())[start::7]]
                 for book, start in (("a", 0), ("b", 2), ("c", 4))]
        for chosen in itertools.product(*pools):
            self.check_three(chosen, slow_pool(chosen[0] + chosen[1] + chosen[2]))

    def check_three(self, pools, answer):
        for first, second, third in itertools.permutations(pools):
            self.assertEqual(pour(pour(first, second), third), answer)
            self.assertEqual(pour(first, pour(second, third)), answer)
        self.check_pool(answer)
        names = sorted(name for pool in pools for one in pool for name in one[0])
        self.assertEqual(sorted(name for one in answer for name in one[0]), sorted(set(names)))

    def test_three_pools_of_the_same_book(self):
        pools = [pool_of("b", {key: ("k", {"s": text, "t": key}) for key, text in pairs}, [["s"], ["t"]])
                 for pairs in ((("x", "1"), ("y", "2")), (("y", "1"),), (("x", "3"), ("z", "2")))]
        self.check_three(pools, slow_pool(pools[0] + pools[1] + pools[2]))

    def test_three_pools_that_only_the_third_joins(self):
        pools = ([heap("ax", [mark("1")])], [heap("bx", [mark("2")])], [heap("cx", [mark("1"), mark("2")])])
        self.check_three(pools, [heap("ax bx cx", [mark("1"), mark("2")])])
        self.check_three([pools[0], pools[1], []], [pools[0][0], pools[1][0]])

    def test_each_field_tells_the_books_from_which_it_has_come(self):
        pool = []
        for book, year in (("a", "1"), ("b", "2"), ("c", "1")):
            pool = pour(pool, pool_of(book, {"x": ("k", {"t": "T", "year": year})}, [["t"]]))
        names = [("a", "x"), ("b", "x"), ("c", "x")]
        self.assertEqual(pool, [(names, [mark("T")], [("kind", "k", names), ("t", "T", names),
                                                      ("year", "1", [names[0], names[2]]), ("year", "2", [names[1]])])])

    def test_what_was_told_first_is_not_changed(self):
        one, other = pool_of("a", SHELF, RULES), pool_of("b", SHELF, RULES)
        both = pour(one, other)
        before = copy.deepcopy((one, other, both))
        again = pour(both, [heap("cx", [(1, ("book", "Towns"))], t="T")])
        shelf_of(again)
        self.assertEqual((one, other, both), before)
        again[0][0].append("x")
        again[0][2][0][2].append("x")
        self.assertEqual((one, other, both), before)

    def test_the_greatest_pools(self):
        keys = [first + second for first in "abcde" for second in "abcdefgh"]
        books = "abcdef"
        pool = []
        for book in books:
            pool = pour(pool, pool_of(book, {key: ("k", {"t": key, "s": book}) for key in keys}, [["t"], ["t", "kind"]]))
        self.check_pool(pool)
        self.assertEqual([one[0] for one in pool], [[(book, key) for book in books] for key in keys])
        self.assertEqual(pour(pool, pool), pool)
        alone = [heap(book + key) for book in books for key in keys]
        self.assertEqual(len(pour(alone, [])), 240)


class HeapOf(Case):

    def test_places(self):
        self.told(0, heap_of, POOL, ("one", "towns"))
        self.told(1, heap_of, POOL, ("one", "twin"))
        self.told(1, heap_of, POOL, ("one", "ulm"))

    def test_none(self):
        for name in (("one", "rome"), ("two", "ulm"), ("ulm", "one"), ("one", "Of Ulm"), ("", "")):
            self.told(None, heap_of, POOL, name)
        self.told(None, heap_of, [], ("one", "ulm"))

    def test_a_mark_or_field_is_no_name(self):
        self.told(None, heap_of, [heap("ax", [(0, ("a", "y"))], a="y")], ("a", "y"))

    def test_behind_pouring(self):
        pool = pour(POOL, pool_of("two", SHELF, RULES))
        for place, key in ((0, "towns"), (1, "twin"), (1, "ulm")):
            self.told(place, heap_of, pool, ("one", key))
            self.told(place, heap_of, pool, ("two", key))


class Tells(Case):

    def test_the_one_value(self):
        for field, value in (("by", "Lee, Ann"), ("in", "towns"), ("kind", "part"), ("year", "1901")):
            self.told(value, tells, POOL[1], field)

    def test_none(self):
        for field in ("town", "note", "ki", "Of Ulm", "ulm"):
            self.told(None, tells, POOL[1], field)
        self.told(None, tells, heap("ax"), "t")

    def told_of(self, values):
        """What is told where each name tells its value of the field t, and others tell other fields."""
        pool = []
        for place, value in enumerate(values):
            fields = {"s": "S", "u": "A"} if value is None else {"s": "S", "u": "A", "t": value}
            pool = pour(pool, pool_of("b", {letter(place): ("k", fields)}, [["s"]]))
        return tells(pool[0], "t")

    def test_the_value_that_most_names_tell(self):
        for values, answer in ((["b", "a", "b"], "b"), (["a", "b", "b", "a", "b"], "b"), (["c", None, "c", "a"], "c"),
                               ([None, "b"], "b"), ([None, None], None), (["b", "b", "b", "a", "a"], "b")):
            self.assertEqual(self.told_of(values), answer)

    def test_of_several_the_least(self):
        for values, answer in ((["b", "a"], "a"), (["c", "b", "a", "b", "c"], "b"), (["a", "B"], "B"), (["9", "10"], "10"),
                               (["ab", "a", "b"], "a"), (["b", "b", "a", "a", "c"], "a")):
            self.assertEqual(self.told_of(values), answer)

    def test_names_are_counted_not_books(self):
        pool = pour(pool_of("a", {key: ("k", {"s": "S", "t": "2"}) for key in "xy"}, [["s"]]),
                    pool_of("b", {"x": ("k", {"s": "S", "t": "1"})}, [["s"]]))
        self.assertEqual(tells(pool[0], "t"), "2")

    def test_a_name_may_tell_two_values(self):
        pool = pour(pool_of("a", {"x": ("k", {"t": "2"})}, []), pool_of("a", {"x": ("k", {"t": "1"})}, []))
        self.assertEqual(tells(pool[0], "t"), "1")

    def test_every_small_heap(self):
        for values in itertools.product((None, "a", "b", "c"), repeat=4):
            counts = [(-values.count(value), value) for value in "abc" if value in values]
            self.assertEqual(self.told_of(values), min(counts)[1] if counts else None)


class ShelfOf(Case):

    def test_works(self):
        self.told({"a": ("book", {"title": "Towns"}),
                   "b": ("part", {"by": "Lee, Ann", "in": "a", "title": "Of Ulm", "year": "1901"})}, shelf_of, POOL)

    def test_no_heaps(self):
        self.told({}, shelf_of, [])

    def test_a_heap_without_fields(self):
        self.told({"a": ("k", {}), "b": (None, {})}, shelf_of, [heap("ax", kind="k"), heap("ay")])

    def test_what_most_tell(self):
        pool = pool_of("b", {"x": ("k", {"s": "S", "t": "2"}), "y": ("j", {"s": "S", "t": "2"}),
                             "z": ("k", {"s": "S", "t": "1"})}, [["s"]])
        self.told({"a": ("k", {"s": "S", "t": "2"})}, shelf_of, pool)

    def test_in_is_the_letter_of_the_heap(self):
        shelf = {"x": ("k", {"in": "z"}), "y": ("k", {"in": "y"}), "z": ("k", {"in": "x"})}
        self.told({"a": ("k", {"in": "c"}), "b": ("k", {"in": "b"}), "c": ("k", {"in": "a"})}, shelf_of,
                  pool_of("b", shelf, []))

    def test_in_is_left_out_where_there_is_no_such_heap(self):
        for key in ("gone", "A Book", "b", " ", "bx"):
            self.told({"a": ("k", {"t": "T"})}, shelf_of, pool_of("b", {"x": ("k", {"in": key, "t": "T"})}, []))

    def test_in_is_a_key_of_the_book_that_tells_it(self):
        # Both books have a work of the key y, and not the same one.
        pool = pour(pool_of("one", {"x": ("k", {"in": "y"}), "y": ("k", {"t": "1"})}, [["t"]]),
                    pool_of("two", {"x": ("k", {"in": "y"}), "y": ("k", {"t": "2"})}, [["t"]]))
        self.told({"a": ("k", {"in": "b"}), "b": ("k", {"t": "1"}), "c": ("k", {"in": "d"}), "d": ("k", {"t": "2"})},
                  shelf_of, pool)

    def test_in_by_the_first_name_that_tells_it(self):
        rules = [["s"]]
        books = {"one": {"x": ("k", {"s": "S", "in": "z"})},
                 "two": {"x": ("k", {"s": "S", "in": "y"}), "y": ("k", {"t": "2"})},
                 "three": {"x": ("k", {"s": "S", "in": "y"}), "y": ("k", {"t": "3"})}}
        pool = []
        for book, shelf in books.items():
            pool = pour(pool, pool_of(book, shelf, rules))
        # "three" stands ahead of "two"; what "one" tells is told by fewer names.
        self.told({"a": ("k", {"s": "S", "in": "b"}), "b": ("k", {"t": "3"}), "c": ("k", {"t": "2"})}, shelf_of, pool)
        # Without it y is told no more often than z, and the lesser is told.
        less = pour(pool_of("one", books["one"], rules), pool_of("two", books["two"], rules))
        self.told({"a": ("k", {"s": "S", "in": "b"}), "b": ("k", {"t": "2"})}, shelf_of, less)

    def test_in_of_the_first_name_alone(self):
        # The first that tells y has no work of this key, though another has one.
        pool = pour(pool_of("a", {"x": ("k", {"s": "S", "in": "y"})}, [["s"]]),
                    pool_of("b", {"x": ("k", {"s": "S", "in": "y"}), "y": ("k", {})}, [["s"]]))
        self.told({"a": ("k", {"s": "S"}), "b": ("k", {})}, shelf_of, pool)

    def test_in_of_a_twin_is_the_joined_heap(self):
        pool = pour(pool_of("a", {"p": ("part", {"in": "x", "t": "P"}), "x": ("book", {"t": "T"})}, [["t"]]),
                    pool_of("b", {"q": ("part", {"in": "y", "t": "Q"}), "y": ("book", {"t": "T"})}, [["t"]]))
        self.told({"a": ("part", {"in": "b", "t": "P"}), "b": ("book", {"t": "T"}), "c": ("part", {"in": "b", "t": "Q"})},
                  shelf_of, pool)

    def test_a_heap_may_be_in_itself(self):
        pool = pool_of("b", {"x": ("k", {"t": "T", "in": "y"}), "y": ("k", {"t": "T"})}, [["t"]])
        self.told({"a": ("k", {"t": "T", "in": "a"})}, shelf_of, pool)

    def test_letters_of_many_heaps(self):
        keys = [first + second for first in "abcdef" for second in "abcdefgh"]
        shelf = {key: ("k", {"in": keys[-1 - place], "t": key}) for place, key in enumerate(keys)}
        told = shelf_of(pool_of("b", shelf, [["t"]]))
        self.assertEqual(told, {letter(place): ("k", {"in": letter(47 - place), "t": key})
                                for place, key in enumerate(keys)})
        self.assertEqual(told["a"], ("k", {"in": "av", "t": "aa"}))

    def test_a_shelf_that_was_told_is_a_book_again(self):
        told = shelf_of(pour(POOL, pool_of("two", SHELF, RULES)))
        self.assertEqual([len(one[0]) for one in pool_of("new", told, RULES)], [1, 1])


if __name__ == "__main__":
    unittest.main()
