"""Books of works poured together: heaps of twins, and what a heap tells [23] to [26]."""

from citeward.ladder import letter
from citeward.plain import each_once


def pool_of(book, shelf, rules):
    return joined([lone_heap((book, key), shelf[key], rules) for key in shelf])


def lone_heap(name, work, rules):
    texts = own_texts(work)
    fields = [(field, texts[field], [name]) for field in texts if field != "note"]
    return ([name], marks_of(texts, rules), fields)


def own_texts(work):
    texts = dict(work[1])
    texts["kind"] = work[0]
    return texts


def marks_of(texts, rules):
    marks = []
    for number, rule in enumerate(rules):
        if all([field in texts for field in rule]):
            marks.append((number, tuple([texts[field] for field in rule])))
    return marks


def pour(one, other):
    return joined(one + other)


def joined(heaps):
    holders = holders_of(heaps)
    pool = []
    seen = {}
    for place in range(len(heaps)):
        if place not in seen:
            group = tied(heaps, holders, place)
            for other in group:
                seen[other] = True
            pool.append(join_heaps([heaps[other] for other in group]))
    return sorted(pool)


def holders_of(heaps):
    # A name is never like a mark, so both may stand in one dict.
    holders = {}
    for place, heap in enumerate(heaps):
        for tie in heap[0] + heap[1]:
            holders.setdefault(tie, []).append(place)
    return holders


def tied(heaps, holders, place):
    # Also heaps that have nothing in common themselves are joined, by way of a third.
    found = {place: True}
    left = [place]
    while len(left) > 0:
        heap = heaps[left.pop()]
        for tie in heap[0] + heap[1]:
            for other in holders[tie]:
                if other not in found:
                    found[other] = True
                    left.append(other)
    return list(found)


def join_heaps(heaps):
    names = []
    marks = []
    tellers = {}
    for heap in heaps:
        names.extend(heap[0])
        marks.extend(heap[1])
        for field, value, told_by in heap[2]:
            tellers.setdefault((field, value), []).extend(told_by)
    fields = [(pair[0], pair[1], sorted(set(tellers[pair]))) for pair in tellers]
    return (sorted(set(names)), sorted(set(marks)), sorted(fields))


def heap_of(pool, name):
    for place, heap in enumerate(pool):
        if name in heap[0]:
            return place
    return None


def tells(heap, field):
    triple = told_triple(heap, field)
    return None if triple is None else triple[1]


def told_triple(heap, field):
    triples = [triple for triple in heap[2] if triple[0] == field]
    return min(triples, key=lambda triple: (-len(triple[2]), triple[1]), default=None)


def shelf_of(pool):
    shelf = {}
    for place, heap in enumerate(pool):
        shelf[letter(place)] = (tells(heap, "kind"), told_fields(pool, heap))
    return shelf


def told_fields(pool, heap):
    fields = {}
    for field in each_once([triple[0] for triple in heap[2]]):
        text = told_in(pool, heap) if field == "in" else tells(heap, field)
        if field != "kind" and text is not None:
            fields[field] = text
    return fields


def told_in(pool, heap):
    triple = told_triple(heap, "in")
    # The key is one of the book that tells it: another book may have another work of this key.
    book = triple[2][0][0]
    place = heap_of(pool, (book, triple[1]))
    return None if place is None else letter(place)
