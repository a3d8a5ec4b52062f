"""What a text lists, in what order, and the text that is set with its list [19] to [22]."""

from citeward.errors import NoWork
from citeward.ladder import letter_in, pointings
from citeward.plain import each_once
from citeward.shelves import all_had, had
from citeward.templates import asked, fill
from citeward.texts import note_keys, point_keys, read_text


def listed(shelf, keys, many):
    found = []
    # From a key to the first listed work whose note points to it, and to all listed works that are in it.
    noted = {}
    parts = {}
    fresh = [(key, 0, ("text",)) for key in each_once(keys) if key in shelf]
    number = 0
    while len(fresh) > 0:
        found.extend(fresh)
        for triple in fresh:
            take_in(shelf, triple[0], noted, parts)
        number += 1
        known = [triple[0] for triple in found]
        reasons = [(key, reason_for(key, noted, parts, many)) for key in sorted(shelf) if key not in known]
        fresh = [(key, number, reason) for key, reason in reasons if reason is not None]
    return found


def take_in(shelf, key, noted, parts):
    work = shelf[key]
    for other in note_keys(work):
        noted.setdefault(other, key)
    if "in" in work[1]:
        parts.setdefault(work[1]["in"], []).append(key)


def reason_for(key, noted, parts, many):
    if key in noted:
        return ("note", noted[key])
    held = parts.get(key, [])
    if len(held) >= many:
        return ("parts", tuple(held[:many]))
    return None


def in_order(shelf, table, keys, fields):
    # All ranks are made ahead, in the list's order, so that the first Ring is the one that is promised.
    ranks = {}
    for key in keys:
        ranks[key] = rank(shelf, table, key, fields)
    return sorted(keys, key=lambda one: ranks[one])


def rank(shelf, table, key, fields):
    texts = [had(shelf, table, key, field) for field in fields]
    # None goes ahead of every text, also of a note without signs.
    return ([(0, "") if text is None else (1, text) for text in texts], key)


def steps_of(shelf, table, keys, ladder):
    return [steps_row(shelf, table, key, ladder) for key in keys]


def steps_row(shelf, table, key, ladder):
    return [filled(shelf, table, key, template) for template in ladder]


def filled(shelf, table, key, template):
    return fill(template, all_had(shelf, table, key, asked(template)))


def set_text(shelf, table, style, text):
    parts = read_text(text)
    keys = point_keys(parts)
    for key in keys:
        if key not in shelf:
            raise NoWork(key)
    found = [triple[0] for triple in listed(shelf, keys, style["many"])]
    ordered = in_order(shelf, table, found, style["order"])
    told = pointings(steps_of(shelf, table, ordered, style["ladder"]))
    rows = [filled(shelf, table, key, style["row"]) for key in ordered]
    marked = [told_row(row, letter_in(pointing)) for row, pointing in zip(rows, told)]
    return (told_text(parts, dict(zip(ordered, told))), list(zip(ordered, marked)))


def told_row(row, mark):
    return row if mark == "" else row + " ^" + mark


def told_text(parts, told):
    texts = []
    ahead = None
    for part in parts:
        if isinstance(part, str):
            texts.append(part)
        else:
            texts.append(told_point("there" if part[1] == ahead else told[part[1]], part[2]))
            ahead = part[1]
    return "".join(texts)


def told_point(pointing, place):
    if place is None:
        return "(" + pointing + ")"
    return "(" + pointing + ", " + place + ")"
