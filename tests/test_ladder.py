import itertools
import unittest

from support import Case

from citeward.ladder import fits, letter, letter_in, pointings, rival, step_of

# Places 0 and 1 are told apart at step 1, 2 at step 0; 3 and 4 never; 5 has its one text twice.
ROWS = [
    ["Lee", "A. Lee", "Ann Lee"],
    ["Lee", "B. Lee", "Bo Lee"],
    ["Kim", "Kim", "Kim"],
    ["Rao", "C. Rao", "Cy Rao"],
    ["Rao", "C. Rao", "Cy Rao"],
    ["", "Lee", ""],
]


def small_lists():
    for works, steps, texts in ((1, 2, "xy"), (2, 2, "xyz"), (3, 2, "xyz"), (4, 2, "xyz"), (3, 3, "xy"), (5, 1, "xyz")):
        rows = list(itertools.product(("", "x", "y", "z")[:len(texts)], repeat=steps))
        for chosen in itertools.product(rows, repeat=works):
            yield [list(row) for row in chosen]


class Fits(Case):

    def test_places(self):
        self.told([0, 1, 5], fits, ROWS, "Lee")
        self.told([0], fits, ROWS, "A. Lee")
        self.told([0], fits, ROWS, "Ann Lee")
        self.told([2], fits, ROWS, "Kim")
        self.told([3, 4], fits, ROWS, "Cy Rao")
        self.told([5], fits, ROWS, "")

    def test_none(self):
        self.told([], fits, ROWS, "Le")
        self.told([], fits, ROWS, "lee")
        self.told([], fits, ROWS, "Cy Rao^a")
        self.told([], fits, [], "Lee")
        self.told([], fits, [], "")

    def test_the_longest_list(self):
        rows = [["x"] * 6 for place in range(100)]
        self.told(list(range(100)), fits, rows, "x")
        self.told([], fits, rows, "xx")


class Rival(Case):

    def test_the_first_other_work(self):
        self.told((1, 0), rival, ROWS, 0, 0)
        self.told((0, 0), rival, ROWS, 1, 0)
        self.told((0, 0), rival, ROWS, 5, 1)
        self.told((4, 0), rival, ROWS, 3, 0)
        self.told((3, 1), rival, ROWS, 4, 1)
        self.told((3, 2), rival, ROWS, 4, 2)

    def test_none(self):
        for place, step in ((0, 1), (0, 2), (1, 1), (1, 2), (2, 0), (2, 1), (2, 2), (5, 0), (5, 2)):
            self.told(None, rival, ROWS, place, step)
        self.told(None, rival, [["x"]], 0, 0)
        self.told(None, rival, [["x", "x"]], 0, 1)

    def test_the_first_step_of_the_first_other(self):
        rows = [["a", "b", "c"], ["x", "c", "c"], ["c", "a", "b"]]
        self.told((1, 1), rival, rows, 0, 2)
        self.told((2, 1), rival, rows, 0, 0)
        self.told((2, 2), rival, rows, 0, 1)
        self.told((0, 2), rival, rows, 1, 1)
        self.told((0, 2), rival, rows, 1, 2)
        self.told((0, 2), rival, rows, 2, 0)
        self.told(None, rival, rows, 1, 0)

    def test_a_text_without_signs(self):
        self.told((1, 1), rival, [["", "a"], ["b", ""]], 0, 0)

    def test_all_small_lists(self):
        for rows in small_lists():
            for place, step in itertools.product(range(len(rows)), range(len(rows[0]))):
                found = [(other, there) for other in range(len(rows)) for there in range(len(rows[0]))
                         if other != place and rows[other][there] == rows[place][step]]
                self.assertEqual(rival(rows, place, step), found[0] if found else None, rows)


class StepOf(Case):

    def test_the_least_without_a_rival(self):
        for place, step in enumerate((1, 1, 0, None, None, 0)):
            self.told(step, step_of, ROWS, place)

    def test_another_work_at_another_step_is_a_rival_too(self):
        rows = [["x", "y"], ["z", "x"]]
        self.told(1, step_of, rows, 0)
        self.told(0, step_of, rows, 1)
        self.told(None, step_of, [["x", "z"], ["z", "x"]], 0)

    def test_a_later_step_may_be_less_than_the_last(self):
        rows = [["x", "y", "x"], ["x", "x", "x"]]
        self.told(1, step_of, rows, 0)
        self.told(None, step_of, rows, 1)

    def test_six_steps(self):
        rows = [["a", "b", "c", "d", "e", "f"], ["a", "b", "c", "d", "e", "g"]]
        self.told(5, step_of, rows, 0)
        self.told(5, step_of, rows, 1)
        self.told(0, step_of, rows[:1], 0)

    def test_all_small_lists(self):
        for rows in small_lists():
            for place in range(len(rows)):
                free = [step for step in range(len(rows[0])) if rival(rows, place, step) is None]
                self.assertEqual(step_of(rows, place), free[0] if free else None, rows)


class Letter(Case):

    def test_one_sign(self):
        for number, sign in enumerate("abcdefghijklmnopqrstuvwxyz"):
            self.told(sign, letter, number)

    def test_more_signs(self):
        for number, text in ((26, "aa"), (27, "ab"), (51, "az"), (52, "ba"), (53, "bb"), (77, "bz"), (675, "yz"),
                             (676, "za"), (700, "zy"), (701, "zz"), (702, "aaa"), (703, "aab"), (18277, "zzz"),
                             (18278, "aaaa")):
            self.told(text, letter, number)

    def test_as_told(self):
        for number in range(26, 2000):
            self.assertEqual(letter(number), letter(number // 26 - 1) + letter(number % 26))

    def test_each_is_the_only_one(self):
        texts = [letter(number) for number in range(20000)]
        self.assertEqual(len(set(texts)), 20000)
        self.assertEqual(sorted(texts, key=lambda text: (len(text), text)), texts)

    def test_great_numbers(self):
        for number in (10 ** 59, 10 ** 60 - 1, 10 ** 60, 10 ** 400):
            text = letter(number)
            back = 0
            for sign in text:
                back = back * 26 + ord(sign) - ord("a") + 1
            self.assertEqual(back - 1, number)


class Pointings(Case):

    def test_steps_and_letters(self):
        self.told(["A. Lee", "B. Lee", "Kim", "Cy Rao^a", "Cy Rao^b", ""], pointings, ROWS)

    def test_no_works(self):
        self.told([], pointings, [])

    def test_one_work(self):
        self.told(["x"], pointings, [["x", "y"]])
        self.told(["x"], pointings, [["x"]])
        self.told([""], pointings, [["", "y"]])

    def test_letters_go_by_the_last_text_in_the_lists_order(self):
        rows = [["p", "x"], ["p", "y"], ["q", "x"], ["q", "y"], ["p", "x"]]
        self.told(["x^a", "y^a", "x^b", "y^b", "x^c"], pointings, rows)

    def test_a_work_with_a_step_takes_no_letter(self):
        rows = [["p", "x"], ["r", "x"], ["p", "x"], ["s", "x"], ["p", "x"]]
        self.told(["x^a", "r", "x^b", "s", "x^c"], pointings, rows)

    def test_a_letter_without_another_of_the_same_last_text(self):
        self.told(["x^a", "y"], pointings, [["x", "x"], ["y", "x"]])
        self.told(["x^a", "z^a"], pointings, [["z", "x"], ["x", "z"]])

    def test_a_lower_step_of_another_work_counts(self):
        self.told(["y", "z"], pointings, [["x", "y"], ["z", "x"]])
        self.told(["y", "x^a"], pointings, [["x", "y"], ["x", "x"]])

    def test_texts_without_signs(self):
        self.told(["^a", "^b", "^c"], pointings, [[""], [""], [""]])

    def test_the_longest_list(self):
        rows = [["x", "y"] for place in range(100)]
        self.told(["y^" + letter(place) for place in range(100)], pointings, rows)
        self.assertEqual(pointings(rows)[25:28] + pointings(rows)[-1:], ["y^z", "y^aa", "y^ab", "y^cv"])

    def test_somewhat_beyond_the_bounds_is_not_refused(self):
        rows = [list("abcdefg"), list("abcdefh")] + [list("abcdefa")] * 110
        self.told(["g", "h"] + ["a^" + letter(number) for number in range(110)], pointings, rows)

    def test_all_small_lists(self):
        for rows in small_lists():
            told = pointings(rows)
            self.assertEqual(len(set(told)), len(rows), rows)
            groups = {}
            for place, pointing in enumerate(told):
                step = step_of(rows, place)
                if step is None:
                    groups.setdefault(rows[place][-1], []).append(pointing)
                    continue
                self.assertEqual(pointing, rows[place][step])
                self.assertEqual(fits(rows, pointing), [place])
                for lower in rows[place][:step]:
                    self.assertIn(place, fits(rows, lower))
                    self.assertGreater(len(fits(rows, lower)), 1)
            for last, members in groups.items():
                self.assertEqual(members, [last + "^" + "abcde"[number] for number in range(len(members))])


class LetterIn(Case):

    def test_letters(self):
        for pointing, text in (("x^a", "a"), ("x y^ab", "ab"), ("^a", "a"), ("x", ""), ("", "")):
            self.told(text, letter_in, pointing)


if __name__ == "__main__":
    unittest.main()
