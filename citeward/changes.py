"""Which pointings change when a work is put in, and why [27], [28]."""

from citeward.ladder import letter_in, pointings


def put_in(rows, row, place):
    copies = [list(one) for one in rows]
    return copies[:place] + [list(row)] + copies[place:]


def changes(rows, row, place):
    after = pointings(put_in(rows, row, place))
    told = []
    for number, old in enumerate(pointings(rows)):
        new = after[number if number < place else number + 1]
        if new != old:
            told.append((number, old, new, reason_of(old, row)))
    return told


def reason_of(old, row):
    if letter_in(old) != "":
        return ("letter",)
    # Such a pointing changes only where the new work has its text, too, so it is found in the row.
    return ("fits", row.index(old))
