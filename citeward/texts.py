"""Texts with pointings: read, shown again, and the keys to which a note points [17], [18]."""

from citeward.errors import NoText
from citeward.plain import STYLE_SIGNS, angled, is_name, is_plain


def read_text(text):
    if not isinstance(text, str):
        raise NoText("a text with pointings is a text")
    cuts = angled(text, STYLE_SIGNS + "\n")
    if cuts is None:
        raise NoText("a sign stands where it may not, or a pointing has no end")
    parts = []
    for place, cut in enumerate(cuts):
        if place % 2 == 1:
            parts.append(read_point(cut))
        elif cut != "":
            parts.append(cut)
    return parts


def read_point(text):
    halves = text.partition(" ")
    if not is_name(halves[0]):
        raise NoText("a pointing begins with a name")
    # By the blank, not by what stands behind it: a blank with nothing behind it is refused.
    if halves[1] == "":
        return ("point", halves[0], None)
    if not is_plain(halves[2]):
        raise NoText("the place of a pointing is a plain text")
    return ("point", halves[0], halves[2])


def show_text(parts):
    return "".join([part if isinstance(part, str) else show_point(part) for part in parts])


def show_point(point):
    if point[2] is None:
        return "<" + point[1] + ">"
    return "<" + point[1] + " " + point[2] + ">"


def point_keys(parts):
    return [part[1] for part in parts if not isinstance(part, str)]


def note_keys(work):
    try:
        # A note that is not there is no text, and is refused like one that is no text with pointings.
        parts = read_text(work[1].get("note"))
    except NoText:
        return []
    return point_keys(parts)
