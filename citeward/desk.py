"""The desk: it is told rows, one at a time, and answers each with a text [32]."""

from citeward.errors import NoName, NoNumber, NoPlain, NoRow, NoStyle, NoWork
from citeward.marks import read_list, write_list
from citeward.plain import FIGURES, is_name, is_plain, is_text_of
from citeward.setting import in_order, set_text
from citeward.shelves import had
from citeward.templates import read_template

MOST_STEPS = 6
NUMBER_LENGTH = 9


def put_work(desk, words):
    key = checked_name(words[1], ())
    kind = checked_name(words[2], ())
    desk.shelf[key] = (kind, {})
    return "ok"


def put_field(desk, words):
    key = checked_key(desk, words[1])
    name = checked_name(words[2], ("kind",))
    if name != "note" and not is_plain(words[3]):
        raise NoPlain("a field but a note is a plain text")
    desk.shelf[key][1][name] = words[3]
    return "ok"


def take_field(desk, words):
    key = checked_key(desk, words[1])
    name = checked_name(words[2], ())
    desk.shelf[key][1].pop(name, None)
    return "ok"


def drop_work(desk, words):
    desk.shelf.pop(checked_key(desk, words[1]))
    return "ok"


def lend_field(desk, words):
    kind = checked_name(words[1], ())
    name = checked_name(words[2], ("note", "kind"))
    other = checked_name(words[3], ("note", "kind"))
    desk.table.setdefault(kind, []).append((name, other))
    return "ok"


def put_step(desk, words):
    template = read_template(words[1])
    if len(desk.steps) == MOST_STEPS:
        raise NoStyle("the ladder has six steps already")
    desk.steps.append(template)
    return "ok"


def clear_steps(desk, words):
    desk.steps = []
    return "ok"


def put_row(desk, words):
    desk.row = read_template(words[1])
    return "ok"


def put_order(desk, words):
    desk.order = [checked_name(word, ()) for word in words[1:]]
    return "ok"


def put_many(desk, words):
    if not is_text_of(words[1], FIGURES, NUMBER_LENGTH) or words[1].startswith("0"):
        raise NoNumber("a number has one to nine figures, without a nought ahead")
    desk.many = int(words[1])
    return "ok"


def told_set(desk, words):
    told = set_text(desk.shelf, desk.table, desk.style(), words[1])
    return "\n".join([told[0]] + [pair[1] for pair in told[1]])


def told_had(desk, words):
    key = checked_key(desk, words[1])
    name = checked_name(words[2], ())
    text = had(desk.shelf, desk.table, key, name)
    return "" if text is None else text


def told_list(desk, words):
    template = read_template(words[1])
    keys = in_order(desk.shelf, desk.table, sorted(desk.shelf), desk.order)
    return write_list(desk.shelf, desk.table, keys, template)


def load_list(desk, words):
    desk.shelf = read_list(words[1])
    return "ok"


def checked_name(word, barred):
    if not is_name(word) or word in barred:
        raise NoName("a word is no name, or one that may not stand here")
    return word


def checked_key(desk, word):
    if word not in desk.shelf:
        raise NoWork(word)
    return word


# By the first word of a row: how many words it has, what its last one is (one word, a text that may have blanks, or
# the first of several words), and what answers it.
ROWS = {
    "work": (3, "word", put_work),
    "field": (4, "text", put_field),
    "bare": (3, "word", take_field),
    "drop": (2, "word", drop_work),
    "lend": (4, "word", lend_field),
    "step": (2, "text", put_step),
    "steps": (1, "word", clear_steps),
    "row": (2, "text", put_row),
    "order": (2, "words", put_order),
    "many": (2, "word", put_many),
    "set": (2, "text", told_set),
    "has": (3, "word", told_had),
    "list": (2, "text", told_list),
    "load": (2, "text", load_list),
}


def words_of(row):
    if not isinstance(row, str):
        raise NoRow("a row is a text")
    first = row.partition(" ")[0]
    if first not in ROWS:
        raise NoRow("no row begins with this word")
    form = ROWS[first]
    words = row.split(" ", form[0] - 1) if form[1] == "text" else row.split(" ")
    if len(words) < form[0] or (len(words) > form[0] and form[1] == "word"):
        raise NoRow("a row has too few or too many words")
    return words


class Desk:

    def __init__(self):
        self.shelf = {}
        self.table = {}
        # The templates that were told: the one of the beginning is not among them, as it goes with the first.
        self.steps = []
        self.row = ()
        self.order = []
        self.many = 2

    def style(self):
        ladder = [()] if len(self.steps) == 0 else self.steps
        return {"ladder": ladder, "row": self.row, "order": self.order, "many": self.many}

    def say(self, row):
        words = words_of(row)
        answer = ROWS[words[0]][2]
        return answer(self, words)
