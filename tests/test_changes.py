import itertools
import unittest

from support import Case

from citeward.changes import changes, put_in
from citeward.ladder import fits, letter, pointings, step_of

# Pointings: "Lee", "Kim", "Rao^a", "Rao^b", "Ash".
ROWS = [["Lee", "A. Lee"], ["Kim", "B. Kim"], ["Rao", "Rao"], ["Rao", "Rao"], ["Ash", "C. Ash"]]
LETTER = ("letter",)


def small_changes():
    for works, steps, texts in ((1, 2, "xyz"), (2, 2, "xyz"), (3, 2, "xyz"), (2, 3, "xy"), (4, 1, "xyz"), (3, 3, "xy")):
        rows = [list(row) for row in itertools.product(texts, repeat=steps)]
        for chosen in itertools.product(rows, repeat=works):
            for row, place in itertools.product(rows, range(works + 1)):
                yield [list(one) for one in chosen], list(row), place


def without_step(rows, place):
    return step_of(rows, place) is None


class PutIn(Case):

    def test_places(self):
        rows, row = [["a", "b"], ["c", "d"]], ["e", "f"]
        self.told([row, rows[0], rows[1]], put_in, rows, row, 0)
        self.told([rows[0], row, rows[1]], put_in, rows, row, 1)
        self.told([rows[0], rows[1], row], put_in, rows, row, 2)

    def test_no_rows(self):
        self.told([["a"]], put_in, [], ["a"], 0)

    def test_a_row_that_is_there(self):
        row = ["a", "b"]
        self.told([row, row, row], put_in, [row, row], row, 1)

    def test_the_rows_are_new_ones(self):
        rows, row = [["a"], ["b"]], ["c"]
        for place in range(3):
            told = put_in(rows, row, place)
            for one, other in itertools.product(told, rows + [row]):
                self.assertIsNot(one, other)
            told[place].append("x")
            told[0].append("x")
            self.assertEqual((rows, row), ([["a"], ["b"]], ["c"]))

    def test_what_was_told_first_is_not_changed(self):
        rows = [["a"]]
        first = put_in(rows, ["b"], 1)
        second = put_in(first, ["c"], 0)
        second[1].append("x")
        self.assertEqual(first, [["a"], ["b"]])
        rows.append(["d"])
        rows[0].append("x")
        self.assertEqual(first, [["a"], ["b"]])

    def test_the_longest_list(self):
        rows = [[letter(place)] * 6 for place in range(99)]
        for place in (0, 50, 99):
            self.told(rows[:place] + [["new"] * 6] + rows[place:], put_in, rows, ["new"] * 6, place)


class Changes(Case):

    def test_nothing_changes(self):
        for place in range(6):
            self.told([], changes, ROWS, ["Fox", "D. Fox"], place)
            self.told([], changes, ROWS, ["Fox", "A. Lee"], place)
            self.told([], changes, ROWS, ["Rao", "D. Rao"], place)

    def test_no_rows(self):
        self.told([], changes, [], ["a", "b"], 0)

    def test_a_pointing_that_fits_the_new_work(self):
        for place in range(6):
            self.told([(0, "Lee", "A. Lee", ("fits", 0))], changes, ROWS, ["Lee", "D. Lee"], place)
            self.told([(4, "Ash", "C. Ash", ("fits", 1))], changes, ROWS, ["Fox", "Ash"], place)
            self.told([(0, "Lee", "A. Lee", ("fits", 1)), (1, "Kim", "B. Kim", ("fits", 0))],
                      changes, ROWS, ["Kim", "Lee"], place)

    def test_the_first_step_of_the_new_work(self):
        rows = [["a", "b", "c"], ["d", "e", "f"]]
        self.told([(0, "a", "b", ("fits", 0))], changes, rows, ["a", "a", "a"], 0)
        self.told([(0, "a", "b", ("fits", 1))], changes, rows, ["x", "a", "a"], 2)
        self.told([(0, "a", "c", ("fits", 1))], changes, rows, ["b", "a", "x"], 1)
        self.told([(0, "a", "b", ("fits", 2)), (1, "d", "e", ("fits", 0))], changes, rows, ["d", "d", "a"], 1)

    def test_the_place_is_the_old_one(self):
        rows = [["a", "b"], ["c", "d"], ["e", "f"]]
        for place in range(4):
            self.told([(2, "e", "f", ("fits", 0))], changes, rows, ["e", "x"], place)

    def test_letters_behind_the_new_work(self):
        row = ["Rao", "Rao"]
        both = [(2, "Rao^a", "Rao^b", LETTER), (3, "Rao^b", "Rao^c", LETTER)]
        for place, answer in ((0, both), (1, both), (2, both), (3, both[1:]), (4, []), (5, [])):
            self.told(answer, changes, ROWS, row, place)

    def test_a_work_that_loses_its_step_gets_a_letter(self):
        rows = [["x", "y"], ["z", "y"]]
        self.told([(0, "x", "y^a", ("fits", 0))], changes, rows, ["x", "w"], 2)
        self.told([(0, "x", "y^b", ("fits", 0))], changes, rows, ["x", "y"], 0)
        self.told([(0, "x", "y^a", ("fits", 0))], changes, rows, ["x", "y"], 1)

    def test_such_as_lost_their_step_push_letters(self):
        # The new work has another last text: the first gets a letter by it, and pushes those behind.
        rows = [["x", "y"], ["y", "y"], ["y", "y"]]
        self.assertEqual(pointings(rows), ["x", "y^a", "y^b"])
        for place in range(4):
            self.told([(0, "x", "y^a", ("fits", 0)), (1, "y^a", "y^b", LETTER), (2, "y^b", "y^c", LETTER)],
                      changes, rows, ["x", "w"], place)

    def test_a_text_without_signs(self):
        self.told([(0, "", "a", ("fits", 1))], changes, [["", "a"]], ["b", ""], 0)
        self.told([(0, "", "^a", ("fits", 0))], changes, [[""]], [""], 1)
        self.told([(0, "", "^b", ("fits", 0))], changes, [[""]], [""], 0)
        self.told([(0, "^a", "^b", LETTER), (1, "^b", "^c", LETTER)], changes, [[""], [""]], [""], 0)

    def test_a_row_that_is_there(self):
        self.told([(0, "a", "b^a", ("fits", 0))], changes, [["a", "b"]], ["a", "b"], 1)
        self.told([(0, "a", "b^b", ("fits", 0))], changes, [["a", "b"]], ["a", "b"], 0)

    def test_what_was_told_first_is_not_changed(self):
        rows = [["a", "b"]]
        first = changes(rows, ["a", "c"], 0)
        rows[0][1] = "x"
        changes(rows, ["a", "c"], 0)
        self.assertEqual(first, [(0, "a", "b", ("fits", 0))])

    def test_the_longest_list(self):
        rows = [["x"] * 6 for place in range(99)]
        self.told([(place, "x^" + letter(place), "x^" + letter(place + 1), LETTER) for place in range(99)],
                  changes, rows, ["x"] * 6, 0)
        self.told([(98, "x^" + letter(98), "x^" + letter(99), LETTER)], changes, rows, ["x"] * 6, 98)
        self.told([], changes, rows, ["x"] * 6, 99)
        self.assertEqual(letter(98), "cu")

    def test_every_small_change(self):
        for rows, row, place in small_changes():
            after = put_in(rows, row, place)
            old, new = pointings(rows), pointings(after)
            del new[place]
            answer = []
            for number, (before, behind) in enumerate(zip(old, new)):
                if before != behind:
                    reason = LETTER if "^" in before else ("fits", row.index(before))
                    answer.append((number, before, behind, reason))
            self.assertEqual(changes(rows, row, place), answer)

    def test_just_where_the_document_says(self):
        for rows, row, place in small_changes():
            changed = [one[0] for one in changes(rows, row, place)]
            self.assertEqual(changed, [number for number in range(len(rows))
                                       if self.is_changed(rows, put_in(rows, row, place), number, place)])

    def is_changed(self, rows, after, number, place):
        pointing = pointings(rows)[number]
        if "^" not in pointing:
            return place in fits(after, pointing)
        last = rows[number][-1]
        ahead = [one for one in range(number) if rows[one][-1] == last and without_step(rows, one)]
        moved = number + (number >= place)
        now = [one for one in range(moved) if after[one][-1] == last and without_step(after, one)]
        return len(now) > len(ahead)


if __name__ == "__main__":
    unittest.main()
