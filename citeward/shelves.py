"""What a work on a shelf has as a field, itself or of another work [8] to [10]."""

from citeward.errors import Ring


def way(shelf, table, key, field):
    pairs = []
    places = {}
    pair = (key, field)
    while pair is not None:
        if pair in places:
            raise Ring(pairs[places[pair]:])
        places[pair] = len(pairs)
        pairs.append(pair)
        pair = pair_behind(shelf, table, pair)
    return pairs


def pair_behind(shelf, table, pair):
    work = shelf[pair[0]]
    fields = work[1]
    if pair[1] in fields:
        return None
    other = other_field(table, work[0], pair[1])
    # The key is the work's own "in" alone: "in" itself is not handed down here.
    key = fields.get("in")
    if other is None or key is None or key not in shelf:
        return None
    return (key, other)


def other_field(table, kind, field):
    for pair in table.get(kind, []):
        if pair[0] == field:
            return pair[1]
    return None


def had(shelf, table, key, field):
    last = way(shelf, table, key, field)[-1]
    return shelf[last[0]][1].get(last[1])


def all_had(shelf, table, key, fields):
    found = {}
    for field in fields:
        text = had(shelf, table, key, field)
        # A note may be a text without signs, and is had all the same.
        if text is not None:
            found[field] = text
    return found
