import copy
import itertools
import unittest

from support import Case, NO_TEXTS

from citeward.desk import Desk
from citeward.errors import CiteError, NoList, NoName, NoNumber, NoPlain, NoRow, NoStyle, NoText, NoWork, Ring
from citeward.marks import read_list
from citeward.setting import set_text
from citeward.shelves import had
from citeward.templates import read_template

# Words that are no names.
NO_NAMES = ("", "A", "a1", "abcdefghi", "a\n", "\n", "\na", "a\nb", "a-b", "<a>", "{a}", "\t", "a\t", "1", "^")

TOWNS = (
    "work ulm part", "field ulm by Lee, Ann", "field ulm title Of Ulm", "field ulm in towns",
    "work bonn part", "field bonn by Lee, Bo", "field bonn title Of Bonn", "field bonn in towns",
    "work towns book", "field towns name Towns", "field towns year 1901",
    "work kim book", "field kim by Kim", "field kim name Alone", "field kim note See <towns>.",
    "lend part year year", "lend part book name",
    "step {by 1 0}", "step {by 1 1}", "row [{by 9 2}: ]{title|name}[, in {book}][ ({year})]", "order by",
)
# Asked for t, s or r, "own" and "two" are rings.
RINGS = ("work own k", "field own in own", "field own u B", "work two k", "field two in two", "field two u A",
         "work fine j", "field fine t T", "lend k t t", "lend k s r", "lend k r s")
RING_T = [("own", "t")]

# How many words each row has, the first counted, and whether more may follow.
FORMS = {"work": (3, False), "field": (4, True), "bare": (3, False), "drop": (2, False), "lend": (4, False),
         "step": (2, True), "steps": (1, False), "row": (2, True), "order": (2, True), "many": (2, False),
         "set": (2, True), "has": (3, False), "list": (2, True), "load": (2, True)}


def told_desk(*rows):
    desk = Desk()
    for row in rows:
        desk.say(row)
    return desk


class CaseDesk(Case):

    def answered(self, desk, *pairs):
        for row, answer in pairs:
            with self.subTest(row):
                told = desk.say(row)
                self.assertIs(type(told), str)
                self.assertEqual(told, answer)

    def fine(self, desk, *rows):
        self.answered(desk, *[(row, "ok") for row in rows])

    def refuses(self, refusal, desk, said, **values):
        """The row is refused, and again, and nothing is changed by it."""
        before = copy.deepcopy(vars(desk))
        self.refused(refusal, desk.say, said, **values)
        self.refused(refusal, desk.say, said, **values)
        self.assertEqual(vars(desk), before)


class Rows(CaseDesk):

    def test_no_texts(self):
        for value in NO_TEXTS:
            self.refuses(NoRow, Desk(), value)
            self.refuses(NoRow, told_desk(*TOWNS), value)

    def test_the_first_word(self):
        for row in ("", " ", "  ", "\n", "x", "Work a b", "WORK a b", " work a b", "\nwork a b", "work\na b", "work\n a b",
                    "works a b", "wor a b", "steps\n", "\nsteps", "Steps", "step\n x", "set\n x", "lists x", "ok", "say",
                    "load\n", "has\n a b", "order\n a", "many\n1", "work\ta\tb", "get a", "a work b", "drops a"):
            self.refuses(NoRow, Desk(), row)
            self.refuses(NoRow, told_desk(*TOWNS), row)

    def test_too_few_words(self):
        for first, (many, more) in FORMS.items():
            for number in range(1, many):
                for word in ("ulm", "", "\n", "1", "kind", "a\nb"):
                    self.refuses(NoRow, told_desk(*TOWNS), " ".join([first] + [word] * (number - 1)))

    def test_too_many_words(self):
        for first, (many, more) in FORMS.items():
            for number in range(many + 1, many + 4):
                for word in ("ulm", "", "\n", "1", "kind", "a\nb"):
                    if not more:
                        self.refuses(NoRow, told_desk(*TOWNS), " ".join([first] + [word] * (number - 1)))

    def test_a_blank_at_the_end_is_a_word(self):
        for row in ("work a b ", "bare ulm in ", "drop ulm ", "lend a b c ", "steps ", "many 3 ", "has ulm by "):
            self.refuses(NoRow, told_desk(*TOWNS), row)
        for row in ("work  a b", "work a  b", "bare ulm  in", "drop  ulm", "lend a b  c", "many  3", "has ulm  by"):
            self.refuses(NoRow, told_desk(*TOWNS), row)

    def test_no_row_goes_first(self):
        for row in ("work A B c", "drop gone x", "many 0 0", "bare gone A x", "has gone A x", "field gone A", "field gone",
                    "lend A B", "lend A B C D", "bare gone", "has gone", "drop", "work A", "order", "steps {", "many"):
            self.refuses(NoRow, told_desk(*TOWNS), row)

    def test_a_new_desk(self):
        desk = Desk()
        self.answered(desk, ("list ", ""), ("list x", ""), ("set ", ""), ("set x", "x"))
        self.refuses(NoWork, desk, "set <a>", key="a")
        self.refuses(NoWork, desk, "has a b", key="a")
        self.answered(desk, ("work a b", "ok"), ("set <a>", "()\n"), ("list ", "a b "), ("has a b", ""))

    def test_desks_are_alone(self):
        one, other = Desk(), Desk()
        self.fine(one, *TOWNS)
        self.answered(other, ("list ", ""), ("work ulm k", "ok"), ("set <ulm>", "()\n"), ("list {by}{year}", "ulm k "))
        self.answered(one, ("has ulm by", "Lee, Ann"), ("has ulm year", "1901"))

    def test_every_row_that_tells_nothing_answers_ok(self):
        self.fine(Desk(), *TOWNS)
        self.fine(Desk(), *RINGS)
        self.fine(told_desk(*TOWNS), "bare ulm by", "drop ulm", "steps", "many 3", "order a b c", "load ", "load a b x",
                  "step ", "row ", "work a b")


class Works(CaseDesk):

    def test_a_work(self):
        desk = told_desk("work a k")
        self.answered(desk, ("list {t}", "a k "), ("field a t T", "ok"), ("list {t}", "a k <t=T>"))

    def test_in_the_place_of_one_that_was_there(self):
        desk = told_desk("work a k", "field a t T", "work b k", "field b t U", "work a j")
        self.answered(desk, ("list {t}", "a j \nb k <t=U>"), ("has a t", ""))

    def test_any_names(self):
        for key, kind in (("kind", "note"), ("note", "kind"), ("in", "in"), ("a" * 8, "z" * 8)):
            self.answered(Desk(), ("work " + key + " " + kind, "ok"), ("list ", key + " " + kind + " "))

    def test_no_names(self):
        for word in NO_NAMES:
            self.refuses(NoName, told_desk(*TOWNS), "work " + word + " k")
            self.refuses(NoName, told_desk(*TOWNS), "work ulm " + word)
            self.refuses(NoName, told_desk(*TOWNS), "work " + word + " " + word)

    def test_more_works_than_forty(self):
        desk = Desk()
        keys = [first + second for first in "abcde" for second in "abcdefghi"]
        self.fine(desk, *["work " + key + " k" for key in keys])
        self.answered(desk, ("list ", "\n".join([key + " k " for key in keys])))

    def test_drop(self):
        desk = told_desk("work a k", "work b k", "field b in a")
        self.answered(desk, ("drop a", "ok"), ("list {in}", "b k <in=a>"), ("drop b", "ok"), ("list ", ""))
        self.refuses(NoWork, desk, "drop a", key="a")
        self.answered(desk, ("work a k", "ok"), ("list ", "a k "))

    def test_drop_what_is_not_there(self):
        for word in NO_NAMES + ("gone", "kind", "ul", "ulm\n", "part"):
            self.refuses(NoWork, told_desk(*TOWNS), "drop " + word, key=word)
            self.refuses(NoWork, Desk(), "drop " + word, key=word)

    def test_what_is_dropped_hands_nothing_down(self):
        desk = told_desk(*TOWNS)
        self.answered(desk, ("has ulm year", "1901"), ("drop towns", "ok"), ("has ulm year", ""))


class Fields(CaseDesk):

    def test_a_field(self):
        desk = told_desk("work a k")
        for text in ("T", " ", "  x ", "a b c", "x" * 80, ".,!?'-/()&+*=", "0"):
            self.answered(desk, ("field a t " + text, "ok"), ("has a t", text))

    def test_names(self):
        desk = told_desk("work a k")
        for name in ("a", "in", "by", "abcdefgh", "kinds", "notes"):
            self.answered(desk, ("field a " + name + " T", "ok"), ("has a " + name, "T"))

    def test_no_plain_text(self):
        desk = told_desk("work a k", "field a t T")
        for text in ("", "x" * 81, "\n", "x\n", "x\ny", ":", ";", "<a>", "^", "{t}", "[", "\t", "x|y", "_", "\"", "#", "\\"):
            for name in ("t", "s", "in"):
                self.refuses(NoPlain, desk, "field a " + name + " " + text)
        self.answered(desk, ("has a t", "T"), ("has a s", ""))

    def test_a_note_is_any_text(self):
        desk = told_desk("work a k")
        for text in ("", " ", "<a>", "<", "x\ny", "\n", "^", "{", ":;", "x" * 10000, "\t\r\"", "a  b "):
            self.answered(desk, ("field a note " + text, "ok"), ("has a note", text))

    def test_a_note_points(self):
        desk = told_desk("work a k", "work b k", "step {t}", "row {t}", "field b t B", "field a t A")
        self.answered(desk, ("set <a>", "(A)\nA"), ("field a note see <b>", "ok"), ("set <a>", "(A)\nA\nB"),
                      ("field a note see <b", "ok"), ("set <a>", "(A)\nA"), ("field a note ", "ok"), ("set <a>", "(A)\nA"))

    def test_the_name_kind(self):
        for text in ("k", "", "<"):
            self.refuses(NoName, told_desk(*TOWNS), "field ulm kind " + text)

    def test_no_names(self):
        for word in NO_NAMES:
            self.refuses(NoName, told_desk(*TOWNS), "field ulm " + word + " x")
            self.refuses(NoName, told_desk(*TOWNS), "field ulm " + word + " <")
            self.refuses(NoName, told_desk(*TOWNS), "field ulm " + word + " ")

    def test_no_work_goes_ahead(self):
        for word in NO_NAMES + ("gone", "kind"):
            for rest in ("t T", "t <", "kind k", "T <", " ", "note <"):
                self.refuses(NoWork, told_desk(*TOWNS), "field " + word + " " + rest, key=word)

    def test_bare(self):
        desk = told_desk("work a k", "field a t T", "field a s S", "field a note x", "work b k", "field b t U")
        self.answered(desk, ("bare a t", "ok"), ("list {s}{t}", "a k <s=S>\nb k <t=U>"), ("bare a t", "ok"),
                      ("bare a note", "ok"), ("has a note", ""), ("bare a s", "ok"), ("list {s}{t}", "a k \nb k <t=U>"))

    def test_bare_takes_any_name(self):
        desk = told_desk(*TOWNS)
        before = desk.say("list {by}{title}{name}{in}{year}")
        self.fine(desk, "bare ulm kind", "bare ulm note", "bare ulm gone", "bare ulm abcdefgh")
        self.answered(desk, ("list {by}{title}{name}{in}{year}", before))

    def test_bare_takes_nothing_from_others(self):
        desk = told_desk(*TOWNS)
        self.answered(desk, ("bare ulm year", "ok"), ("has ulm year", "1901"), ("bare towns year", "ok"),
                      ("has ulm year", ""))

    def test_bare_is_refused(self):
        for word in NO_NAMES:
            self.refuses(NoName, told_desk(*TOWNS), "bare ulm " + word)
        for word in NO_NAMES + ("gone",):
            self.refuses(NoWork, told_desk(*TOWNS), "bare " + word + " by", key=word)
            self.refuses(NoWork, told_desk(*TOWNS), "bare " + word + " A", key=word)


class Has(CaseDesk):

    def test_what_a_work_has(self):
        self.answered(told_desk(*TOWNS), ("has ulm by", "Lee, Ann"), ("has ulm year", "1901"), ("has ulm book", "Towns"),
                      ("has ulm name", ""), ("has towns book", ""), ("has kim note", "See <towns>."), ("has ulm in", "towns"))

    def test_any_name(self):
        self.answered(told_desk(*TOWNS), ("has ulm kind", ""), ("has ulm note", ""), ("has ulm abcdefgh", ""))

    def test_refused(self):
        for word in NO_NAMES:
            self.refuses(NoName, told_desk(*TOWNS), "has ulm " + word)
        for word in NO_NAMES + ("gone", "Of", "by"):
            self.refuses(NoWork, told_desk(*TOWNS), "has " + word + " by", key=word)
            self.refuses(NoWork, told_desk(*TOWNS), "has " + word + " B", key=word)

    def test_rings(self):
        desk = told_desk(*RINGS)
        self.refuses(Ring, desk, "has own t", ring=RING_T)
        self.refuses(Ring, desk, "has two s", ring=[("two", "s"), ("two", "r")])
        self.answered(desk, ("has own u", "B"), ("has fine t", "T"), ("has fine s", ""))
        self.answered(desk, ("field own t T", "ok"), ("has own t", "T"))


class Lend(CaseDesk):

    def test_the_first_of_several(self):
        desk = told_desk("work a k", "field a in b", "work b j", "field b s S", "field b t T")
        self.answered(desk, ("has a x", ""), ("lend k x s", "ok"), ("has a x", "S"), ("lend k x t", "ok"), ("has a x", "S"),
                      ("lend k y t", "ok"), ("has a y", "T"), ("lend j z s", "ok"), ("has a z", ""))

    def test_a_kind_that_is_not_there_yet(self):
        desk = told_desk("lend kind t t", "work a kind", "field a in b", "work b k", "field b t T")
        self.answered(desk, ("has a t", "T"), ("work a k", "ok"), ("field a in b", "ok"), ("has a t", ""))

    def test_in_may_be_lent(self):
        desk = told_desk("lend k x in", "work a k", "field a in b", "work b k", "field b in c")
        self.answered(desk, ("has a x", "c"))

    def test_refused(self):
        desk = told_desk(*TOWNS)
        for word in NO_NAMES:
            for row in ((word, "a", "b"), ("a", word, "b"), ("a", "b", word), (word, word, word)):
                self.refuses(NoName, desk, "lend " + " ".join(row))
        for word in ("note", "kind"):
            for row in (("a", word, "b"), ("a", "b", word), ("a", word, word), ("A", word, word)):
                self.refuses(NoName, desk, "lend " + " ".join(row))
            self.fine(desk, "lend " + word + " a b")
        self.answered(desk, ("has ulm year", "1901"))


class Style(CaseDesk):

    def test_the_ladder_at_the_beginning(self):
        desk = told_desk("work a k", "work b k", "row x")
        self.answered(desk, ("set <a>", "()\nx"), ("set <b><a>", "(^b)(^a)\nx ^a\nx ^b"))

    def test_the_first_step_takes_its_place(self):
        # Were the template of the beginning there, too, "" would be the pointing.
        desk = told_desk("work a k", "field a t T")
        self.answered(desk, ("step {t}", "ok"), ("set <a>", "(T)\n"), ("step x", "ok"), ("set <a>", "(T)\n"))

    def test_a_first_step_without_pieces_stays(self):
        desk = told_desk("work a k", "field a t T", "step ", "step {t}")
        self.answered(desk, ("set <a>", "()\n"), ("work b k", "ok"), ("set <a>", "()\n"), ("set <a><b>", "(T)(^a)\n\n ^a"))

    def test_a_first_step_that_is_refused_takes_nothing(self):
        desk = told_desk("work a k", "field a t T")
        self.refuses(NoStyle, desk, "step {")
        self.answered(desk, ("set <a>", "()\n"), ("step {t}", "ok"), ("set <a>", "(T)\n"))

    def test_steps_stand_behind_one_another(self):
        desk = told_desk(*TOWNS)
        self.answered(desk, ("set <ulm>", "(Lee)\nAnn Lee: Of Ulm, in Towns (1901)"))
        self.assertEqual(desk.say("set <ulm><bonn>").partition("\n")[0], "(A. Lee)(B. Lee)")

    def test_a_seventh_step(self):
        desk = told_desk("work a k", "work b k", "field b s 7")
        self.fine(desk, *["step " + str(number) for number in range(1, 7)])
        for text in ("{s}", "", "x", "{", "6"):
            self.refuses(NoStyle, desk, "step " + text)
        self.answered(desk, ("set <a><b>", "(6^a)(6^b)\n ^a\n ^b"), ("steps", "ok"), ("step {s}", "ok"),
                      ("set <a><b>", "()(7)\n\n"))
        self.fine(desk, *["step " + str(number) for number in range(2, 7)])
        self.refuses(NoStyle, desk, "step 7")

    def test_six_steps_without_pieces(self):
        desk = told_desk("work a k", *["step "] * 6)
        self.refuses(NoStyle, desk, "step ")
        self.answered(desk, ("set <a>", "()\n"))

    def test_steps(self):
        desk = told_desk("work a k", "field a t T", "step {t}", "step {t}{t}", "row {t}")
        self.answered(desk, ("set <a>", "(T)\nT"), ("steps", "ok"), ("set <a>", "()\nT"), ("steps", "ok"), ("step {t}!", "ok"),
                      ("set <a>", "(T!)\nT"))

    def test_the_row(self):
        desk = told_desk("work a k", "field a t T")
        self.answered(desk, ("set <a>", "()\n"), ("row {t}: x", "ok"), ("set <a>", "()\nT: x"), ("row  {t} ", "ok"),
                      ("set <a>", "()\n T "), ("row ", "ok"), ("set <a>", "()\n"))

    def test_no_style(self):
        desk = told_desk(*TOWNS)
        for text in ("{", "}", "[", "]", "[]", "{}", "{A}", "{note}", "{a 0 0}", "{a 1 3}", "{a 1}", "^", "<", "x\ny", "\n",
                     "{a|b|c|d|e}", "[[[[x]]]]", "{a}" * 31, "{a|}", "{a }", "{a  1 1}", "x\n"):
            for first in ("step ", "row ", "list "):
                self.refuses(NoStyle, desk, first + text)
        for text in ("{a|b|c|d}", "[[[x]]]", "{a}" * 30, "{kind}"):
            self.fine(desk, "step " + text, "row " + text)

    def test_blanks_in_a_template(self):
        desk = told_desk("work a k", "field a by Lee, Ann & Kim", "step {by 1 1}", "row  {by 2 0}  x ")
        self.answered(desk, ("set <a>", "(A. Lee and others)\n Lee and Kim  x "))

    def test_the_order(self):
        desk = told_desk("work a k", "field a s 2", "field a t 1", "work b k", "field b s 1", "field b t 1", "work c k")
        for row, keys in (("order s", "cba"), ("order t", "cab"), ("order t s", "cba"), ("order x", "abc"),
                          ("order s s t x", "cba"), ("order kind", "abc")):
            self.answered(desk, (row, "ok"), ("list ", "\n".join([key + " k " for key in keys])))
        self.fine(desk, "field a note ", "field c note x")
        self.answered(desk, ("order note", "ok"), ("list ", "b k \na k \nc k "))

    def test_the_order_takes_the_place_of_the_former(self):
        desk = told_desk("work a k", "field a s 2", "work b k", "field b s 1", "order s", "order t")
        self.answered(desk, ("list ", "a k \nb k "))

    def test_the_row_s_own_word_is_no_name_of_the_order(self):
        desk = told_desk("work a k", "field a order 2", "field a s 1", "work b k", "field b order 1", "field b s 2")
        self.answered(desk, ("order s", "ok"), ("list ", "a k \nb k "), ("order order", "ok"), ("list ", "b k \na k "))

    def test_order_is_refused(self):
        desk = told_desk(*TOWNS, "order year by")
        for word in NO_NAMES:
            for words in ((word,), (word, "a"), ("a", word), ("a", "b", word), (word, word), ("a", word, "b")):
                self.refuses(NoName, desk, "order " + " ".join(words))
        self.refuses(NoName, desk, "order a b ")
        self.refuses(NoName, desk, "order  a")

    def test_many_names_of_order(self):
        self.fine(Desk(), "order " + " ".join(["a"] * 200))

    def test_many(self):
        desk = told_desk("work a k", "field a in c", "work b k", "field b in c", "work c k", "row {in|x}.")
        both = "(^a)(^b)\nc. ^a\nc. ^b"
        three = both + "\n. ^c"
        self.answered(desk, ("set <a><b>", three), ("many 3", "ok"), ("set <a><b>", both), ("many 2", "ok"),
                      ("set <a><b>", three), ("many 999999999", "ok"), ("set <a><b>", both), ("many 1", "ok"),
                      ("set <a>", "(^a)\nc. ^a\n. ^b"), ("many 10", "ok"), ("set <a><b>", both))

    def test_no_number(self):
        desk = told_desk("work a k", "field a in b", "work b k")
        for word in ("", "0", "00", "01", "007", "1234567890", "0123456789", "000000001", "-1", "+1", "1.", "1.0", "a", "1a",
                     "1\n", "\n1", "\n", "1_0", "0x1", "1\t", "\u0661", "\u00b2", "1\u0660"):
            self.refuses(NoNumber, desk, "many " + word)
        self.answered(desk, ("set <a>", "()\n"))

    def test_every_sign_of_a_number(self):
        desk = Desk()
        for sign in [chr(number) for number in range(128) if chr(number) != " "]:
            if "0" <= sign <= "9":
                self.fine(desk, "many 1" + sign)
            else:
                self.refuses(NoNumber, desk, "many 1" + sign)
                self.refuses(NoNumber, desk, "many " + sign)


class Set(CaseDesk):

    def test_a_text_with_its_list(self):
        self.answered(told_desk(*TOWNS), ("set See <ulm 3>, <ulm>; <bonn>\n<kim 1>.", "See (A. Lee, 3), (there); (B. Lee)\n"
                                          "(Kim, 1).\nTowns (1901)\nKim: Alone\nAnn Lee: Of Ulm, in Towns (1901)\n"
                                          "Bo Lee: Of Bonn, in Towns (1901)"))

    def test_texts_without_pointings(self):
        for text in ("", " ", "x", "x\ny\n", "\n", " x: y; z "):
            self.answered(told_desk(*TOWNS), ("set " + text, text))

    def test_as_set_text_tells(self):
        desk = told_desk(*TOWNS)
        shelf = {
            "ulm": ("part", {"by": "Lee, Ann", "title": "Of Ulm", "in": "towns"}),
            "bonn": ("part", {"by": "Lee, Bo", "title": "Of Bonn", "in": "towns"}),
            "towns": ("book", {"name": "Towns", "year": "1901"}),
            "kim": ("book", {"by": "Kim", "name": "Alone", "note": "See <towns>."}),
        }
        style = {"ladder": [read_template("{by 1 0}"), read_template("{by 1 1}")], "order": ["by"], "many": 2,
                 "row": read_template("[{by 9 2}: ]{title|name}[, in {book}][ ({year})]")}
        table = {"part": [("year", "year"), ("book", "name")]}
        for many in range(1, 4):
            for keys in itertools.permutations(shelf, many):
                text = "x ".join(["<" + key + " p>" for key in keys])
                told, rows = set_text(shelf, table, style, text)
                self.answered(desk, ("set " + text, "\n".join([told] + [row for key, row in rows])))
        for key, name in itertools.product(shelf, ("by", "year", "book", "note", "x")):
            self.answered(desk, ("has " + key + " " + name, had(shelf, table, key, name) or ""))

    def test_no_text(self):
        for text in ("<", ">", "<A>", "<ulm", "<ulm >", "^", "{x}", "[", "\t", "<gone> ^", "<gone><", "<ulm\n>"):
            self.refuses(NoText, told_desk(*TOWNS), "set " + text)
            self.refuses(NoText, told_desk(*RINGS, "order t"), "set <own>" + text)

    def test_no_work(self):
        for text, key in (("<gone>", "gone"), ("<ulm><gone><away>", "gone"), ("<away><gone>", "away")):
            self.refuses(NoWork, told_desk(*TOWNS), "set " + text, key=key)
        self.refuses(NoWork, told_desk(*RINGS, "order t"), "set <own><gone>", key="gone")

    def test_rings(self):
        desk = told_desk(*RINGS, "step {s}", "row {r}", "order u t")
        self.refuses(Ring, desk, "set <two><own>", ring=[("two", "t")])
        desk.say("order u")
        self.refuses(Ring, desk, "set <own>", ring=[("own", "s"), ("own", "r")])
        self.refuses(Ring, desk, "set <own><two>", ring=[("two", "s"), ("two", "r")])
        desk.say("steps")
        self.refuses(Ring, desk, "set <own><two>", ring=[("two", "r"), ("two", "s")])
        self.answered(desk, ("row {u}", "ok"), ("set <own><two>", "(^b)(^a)\nA ^a\nB ^b"))


class Lists(CaseDesk):

    def test_all_works_in_the_order_of_the_style(self):
        desk = told_desk(*TOWNS)
        told = ("towns book <name=Towns> (<year=1901>)\nkim book <by=Kim>: <name=Alone>\n"
                "ulm part <by=Lee, Ann>: <title=Of Ulm> (<year=1901>)\n"
                "bonn part <by=Lee, Bo>: <title=Of Bonn> (<year=1901>)")
        self.answered(desk, ("list [{by 1 1}: ]{title|name}[ ({year})]", told), ("list ", "towns book \nkim book \n"
                                                                                 "ulm part \nbonn part "))

    def test_from_the_order_of_their_keys_on(self):
        self.answered(told_desk("work b k", "work a k", "work ab k"), ("list ", "a k \nab k \nb k "))

    def test_blanks_in_the_template(self):
        self.answered(told_desk("work a k", "field a by Lee, Ann"), ("list  {by 1 0} x", "a k  <by=Lee, Ann> x"))

    def test_no_style_goes_ahead_of_rings(self):
        self.refuses(NoStyle, told_desk(*RINGS, "order t"), "list {")

    def test_rings_by_the_order_go_first(self):
        # "two" came first, but "own" is the lesser key.
        desk = told_desk("work two k", "field two in two", "work z k", *RINGS, "order s t")
        self.refuses(Ring, desk, "list {t}", ring=[("own", "s"), ("own", "r")])
        self.refuses(Ring, desk, "list ", ring=[("own", "s"), ("own", "r")])
        self.fine(desk, "order u t")
        self.refuses(Ring, desk, "list {s}", ring=RING_T)

    def test_rings_by_the_template_come_in_the_order_of_the_style(self):
        desk = told_desk(*RINGS, "order u")
        self.refuses(Ring, desk, "list {t}", ring=[("two", "t")])
        self.refuses(Ring, desk, "list {u}{s}{t}", ring=[("two", "s"), ("two", "r")])
        self.answered(desk, ("list {u}", "fine j \ntwo k <u=A>\nown k <u=B>"))

    def test_load(self):
        desk = told_desk(*TOWNS)
        self.answered(desk, ("load a part <title=T> x\nb book <name=N>", "ok"), ("order x", "ok"),
                      ("list {title}{name}", "a part <title=T>\nb book <name=N>"), ("has a title", "T"))
        self.refuses(NoWork, desk, "has ulm by", key="ulm")

    def test_load_keeps_the_table_and_the_style(self):
        desk = told_desk(*TOWNS, "many 1")
        self.fine(desk, "load p part <by=Lee, Ann><in=q>\nq book <year=1901><name=Q>\nr part <by=Ash, Bo>")
        self.answered(desk, ("has p year", "1901"), ("set <p>", "(Lee)\nQ (1901)\nAnn Lee: , in Q (1901)"),
                      ("list ", "q book \nr part \np part "))

    def test_load_nothing(self):
        desk = told_desk(*TOWNS)
        self.answered(desk, ("load ", "ok"), ("list {by}", ""), ("load ", "ok"), ("work a k", "ok"), ("list ", "a k "))

    def test_no_list(self):
        desk = told_desk(*TOWNS)
        for text, row in (("x", 1), (" ", 1), ("\n", 1), ("a b", 1), ("a b \n", 2), ("a b \nc", 2), ("a b \nc d \na b ", 3),
                          ("a b <note=x>", 1), ("a b \nc d <kind=x>", 2), ("a b <t=T><t=U>", 1), ("a b ^\nx", 1),
                          (" a b ", 1)):
            self.refuses(NoList, desk, "load " + text, row=row)
        self.answered(desk, ("has ulm by", "Lee, Ann"))

    def test_written_read_back_and_loaded_by_another_desk(self):
        one = told_desk(*TOWNS)
        text = "{by}{title}{name}{year}{in}[ [{book}]]"
        told = one.say("list " + text)
        other = told_desk("order by")
        self.answered(other, ("load " + told, "ok"), ("list " + text, told))
        self.assertEqual(read_list(told)["ulm"], ("part", {"by": "Lee, Ann", "title": "Of Ulm", "year": "1901",
                                                           "in": "towns", "book": "Towns"}))
        for key, name in itertools.product(("ulm", "bonn", "towns", "kim"), ("by", "title", "name", "year", "in", "book")):
            self.answered(other, ("has " + key + " " + name, one.say("has " + key + " " + name)))
        # The note is not told by a template, and what was handed down is each work's own then.
        self.answered(other, ("has kim note", ""), ("drop towns", "ok"), ("has ulm year", "1901"))

    def test_what_the_template_does_not_tell_is_lost(self):
        one, other = told_desk(*TOWNS), Desk()
        self.answered(other, ("load " + one.say("list {title}[{by}{year}]"), "ok"),
                      ("list {by}{title}{name}{year}", "bonn part <by=Lee, Bo><title=Of Bonn><year=1901>\nkim book \n"
                       "towns book \nulm part <by=Lee, Ann><title=Of Ulm><year=1901>"))

    def test_what_is_loaded_may_be_changed(self):
        desk = told_desk("load a b <t=T>\nc b <t=T>", "field a t U", "bare c t", "work d b")
        self.answered(desk, ("list {t}", "a b <t=U>\nc b \nd b "))


class Refused(CaseDesk):

    ROWS = ("work A b", "work a B", "work ulm", "field gone t T", "field ulm kind T", "field ulm by <", "field ulm year ",
            "field ulm T x", "bare gone by", "bare ulm By", "bare ulm", "drop gone", "drop ulm x", "lend part note year",
            "lend part year kind", "lend Part a b", "lend part name", "step {", "step", "steps x", "row {", "row", "order",
            "order by A", "order A", "order a ", "many 0", "many 01", "many", "many 1 2", "set <", "set <gone>", "set",
            "has gone by", "has ulm By", "has ulm", "list {", "list", "load x", "load a b \nx", "load a b \na b ", "load",
            "x", "", None, 7, ["steps"])
    ASKED = ("set See <kim 3>, <ulm> and <bonn>.", "list {by}{title}{name}{year}{book}{in}", "has ulm year", "has kim note")

    def test_what_a_desk_tells_behind_a_refused_row(self):
        for row in self.ROWS:
            with self.subTest(row):
                self.check_behind(row)

    def check_behind(self, row):
        desk, other = told_desk(*TOWNS), told_desk(*TOWNS)
        with self.assertRaises(CiteError):
            desk.say(row)
        for asked in self.ASKED:
            self.assertEqual(desk.say(asked), other.say(asked))

    def test_refused_ahead_of_every_row(self):
        desk = Desk()
        for told in TOWNS:
            for row in ("x", "work A b", "field gone t T", "step {", "order A", "many 0", "set <", "load x", None):
                self.refuses(self.class_of(desk, row), desk, row)
            desk.say(told)
        self.assertEqual([desk.say(asked) for asked in self.ASKED],
                         [told_desk(*TOWNS).say(asked) for asked in self.ASKED])

    def class_of(self, desk, row):
        try:
            desk.say(row)
        except CiteError as error:
            return type(error)
        return None

    def test_what_is_asked_changes_nothing(self):
        desk = told_desk(*TOWNS)
        before = copy.deepcopy(vars(desk))
        for asked in self.ASKED * 2:
            desk.say(asked)
        self.assertEqual(vars(desk), before)

    def test_row_ends_in_words(self):
        desk = told_desk(*TOWNS)
        for row, refusal in (("work a\n b", NoName), ("work a b\n", NoName), ("work a\nb c", NoName), ("work a b\nc", NoName),
                             ("field ulm\n by x", NoWork), ("field ulm by\n x", NoName), ("field ulm by x\n", NoPlain),
                             ("bare ulm\n by", NoWork), ("bare ulm by\n", NoName), ("drop ulm\n", NoWork),
                             ("drop \nulm", NoWork), ("lend a\n b c", NoName), ("lend a b\n c", NoName),
                             ("lend a b c\n", NoName), ("step x\n", NoStyle), ("steps\n", NoRow), ("row x\n", NoStyle),
                             ("order a\nb", NoName), ("order a b\n", NoName), ("many 1\n", NoNumber), ("set <ulm\n>", NoText),
                             ("has ulm\n by", NoWork), ("has ulm by\n", NoName), ("list x\n", NoStyle),
                             ("load a b \n", NoList), ("work\na b", NoRow), ("drop\nulm", NoRow), ("work a\nb", NoRow)):
            self.refuses(refusal, desk, row)
        self.answered(desk, ("set x\n", "x\n"), ("field ulm note \n", "ok"), ("has ulm note", "\n"))

    def test_words_without_signs(self):
        desk = told_desk(*TOWNS)
        for row, refusal in (("work  ", NoName), ("work  k", NoName), ("work a ", NoName), ("field  by x", NoWork),
                             ("field ulm  x", NoName), ("field ulm by ", NoPlain), ("field   ", NoWork), ("bare  by", NoWork),
                             ("bare ulm ", NoName), ("drop ", NoWork), ("lend  b c", NoName), ("lend a  c", NoName),
                             ("lend a b ", NoName), ("order ", NoName), ("order a ", NoName), ("many ", NoNumber),
                             ("has  by", NoWork), ("has ulm ", NoName), ("steps ", NoRow)):
            self.refuses(refusal, desk, row)
        self.refuses(NoWork, desk, "drop ", key="")
        self.refuses(NoWork, desk, "has  ", key="")
        self.answered(desk, ("field ulm note ", "ok"), ("has ulm note", ""), ("step ", "ok"), ("row ", "ok"), ("set ", ""),
                      ("list ", "towns book \nkim book \nulm part \nbonn part "), ("load ", "ok"), ("list ", ""))


if __name__ == "__main__":
    unittest.main()
