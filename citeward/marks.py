"""Lists that are written with marks, and read back [29] to [31]."""

from citeward.errors import NoList
from citeward.plain import STYLE_SIGNS, angled, is_name, is_plain
from citeward.shelves import all_had
from citeward.templates import asked, fill


def marked(T, F):
    # A text in a mark is never a text of hands, so hands tell it as it is, too.
    texts = {}
    for name in F:
        texts[name] = "<" + name + "=" + F[name] + ">"
    return fill(T, texts)


def write_list(shelf, table, keys, T):
    return "\n".join([written_row(shelf, table, key, T) for key in keys])


def written_row(shelf, table, key, template):
    texts = all_had(shelf, table, key, asked(template))
    return key + " " + shelf[key][0] + " " + marked(template, texts)


def read_list(text):
    if not isinstance(text, str):
        raise NoList(1)
    shelf = {}
    # The text without signs has no row, where split would tell one.
    rows = [] if text == "" else text.split("\n")
    for number, row in enumerate(rows, start=1):
        words = row.split(" ", 2)
        fields = read_row(words)
        if fields is None or words[0] in shelf:
            raise NoList(number)
        shelf[words[0]] = (words[1], fields)
    return shelf


def read_row(words):
    if len(words) < 3 or not is_name(words[0]) or not is_name(words[1]):
        return None
    cuts = angled(words[2], STYLE_SIGNS)
    return None if cuts is None else read_marks(cuts[1::2])


def read_marks(marks):
    fields = {}
    for mark in marks:
        halves = mark.partition("=")
        if not is_mark(halves[0], halves[2]) or fields.get(halves[0], halves[2]) != halves[2]:
            return None
        fields[halves[0]] = halves[2]
    return fields


def is_mark(name, text):
    return is_name(name) and name not in ("note", "kind") and is_plain(text)
