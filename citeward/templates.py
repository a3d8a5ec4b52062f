"""Templates: read from a text, shown as one, and filled [11] to [13]."""

from citeward.errors import NoHands, NoStyle
from citeward.hands import read_hands, told_hands
from citeward.plain import STYLE_SIGNS, each_once, is_name, is_text_of

MOST_NAMES = 4
MOST_DEEP = 3
MOST_PIECES = 30
MANY_FIGURES = "123456789"
WAY_FIGURES = "012"


def read_template(text):
    if not isinstance(text, str):
        raise NoStyle("a template is read from a text alone")
    cuts = cuts_of(text)
    # Each piece has one cut but for the end of a group, which is the group's second.
    if len(cuts) - cuts.count("]") > MOST_PIECES:
        raise NoStyle("there are more pieces than thirty")
    # The pieces of the template, and above them those of each group that has not ended yet.
    levels = [[]]
    for cut in cuts:
        if cut == "[":
            begin_group(levels)
        elif cut == "]":
            end_group(levels)
        else:
            levels[-1].append(read_piece(cut))
    if len(levels) > 1:
        raise NoStyle("a group has no end")
    return tuple(levels[0])


def cuts_of(text):
    cuts = []
    place = 0
    while place < len(text):
        end = cut_end(text, place)
        cuts.append(text[place:end])
        place = end
    return cuts


def cut_end(text, place):
    if text[place] in "[]":
        return place + 1
    if text[place] == "{":
        # Where there is no end this is 0, as find tells -1 then.
        end = text.find("}", place) + 1
    else:
        end = signs_end(text, place)
    if end <= place:
        raise NoStyle("a sign stands where it may not")
    return end


def signs_end(text, place):
    end = place
    while end < len(text) and text[end] in STYLE_SIGNS:
        end += 1
    return end


def begin_group(levels):
    if len(levels) > MOST_DEEP:
        raise NoStyle("groups stand deeper than three")
    levels.append([])


def end_group(levels):
    if len(levels) == 1:
        raise NoStyle("a group ends that has not begun")
    pieces = levels.pop()
    if len(pieces) == 0:
        raise NoStyle("a group has no pieces")
    levels[-1].append(("group", tuple(pieces)))


def read_piece(cut):
    if cut[0] != "{":
        return ("signs", cut)
    words = cut[1:-1].split(" ")
    if len(words) == 3:
        return read_hands_piece(words)
    names = tuple(cut[1:-1].split("|"))
    if len(names) > MOST_NAMES:
        raise NoStyle("a field has more names than four")
    for name in names:
        check_name(name)
    return ("field", names)


def read_hands_piece(words):
    check_name(words[0])
    if not is_text_of(words[1], MANY_FIGURES, 1):
        raise NoStyle("how many hands are told is a figure from 1 to 9")
    if not is_text_of(words[2], WAY_FIGURES, 1):
        raise NoStyle("a way is 0, 1 or 2")
    return ("hands", words[0], int(words[1]), int(words[2]))


def check_name(name):
    if not is_name(name) or name == "note":
        raise NoStyle("a field of a template is a name that is not note")


def show_template(T):
    return "".join([show_piece(piece) for piece in T])


def show_piece(piece):
    if piece[0] == "signs":
        return piece[1]
    if piece[0] == "field":
        return "{" + "|".join(piece[1]) + "}"
    if piece[0] == "hands":
        return "{" + piece[1] + " " + str(piece[2]) + " " + str(piece[3]) + "}"
    return "[" + show_template(piece[1]) + "]"


def fill(T, F):
    told = [told_piece(piece, F) for piece in T]
    return "".join([text for text in told if text is not None])


def told_piece(piece, texts):
    if piece[0] == "signs":
        return piece[1]
    if piece[0] == "field":
        return told_field(piece[1], texts)
    if piece[0] == "hands":
        return told_names(piece, texts)
    return told_group(piece[1], texts)


def told_field(names, texts):
    for name in names:
        if name in texts:
            return texts[name]
    return None


def told_names(piece, texts):
    text = texts.get(piece[1])
    if text is None:
        return None
    try:
        hands = read_hands(text)
    except NoHands:
        return text
    return told_hands(hands, piece[2], piece[3])


def told_group(pieces, texts):
    told = [told_piece(piece, texts) for piece in pieces]
    # A group that tells nothing tells "", not None: it does not silence the group around it.
    if None in told:
        return ""
    return "".join(told)


def asked(T):
    return each_once(names_in(T))


def names_in(pieces):
    names = []
    for piece in pieces:
        if piece[0] == "field":
            names.extend(piece[1])
        elif piece[0] == "hands":
            names.append(piece[1])
        elif piece[0] == "group":
            names.extend(names_in(piece[1]))
    return names
