"""What a whole number, a pair, a name and a plain text are [2], and what several modules ask of signs and lists."""

# The signs are written out: Python's own isalpha and isdigit let in letters and figures beyond ASCII.
SMALL_LETTERS = "abcdefghijklmnopqrstuvwxyz"
LETTERS = "ABCDEFGHIJKLMNOPQRSTUVWXYZabcdefghijklmnopqrstuvwxyz"
FIGURES = "0123456789"
PLAIN_SIGNS = "ABCDEFGHIJKLMNOPQRSTUVWXYZabcdefghijklmnopqrstuvwxyz0123456789 .,!?'-/()&+*="
# The signs of templates [11]: the plain ones with two more.
STYLE_SIGNS = "ABCDEFGHIJKLMNOPQRSTUVWXYZabcdefghijklmnopqrstuvwxyz0123456789 .,!?'-/()&+*=:;"
NAME_LENGTH = 8
PLAIN_LENGTH = 80


def is_whole(value):
    # True and False are ints to Python.
    return isinstance(value, int) and not isinstance(value, bool)


def is_pair(value):
    return isinstance(value, tuple) and len(value) == 2


def is_all_of(text, signs):
    return all([sign in signs for sign in text])


def is_text_of(value, signs, most):
    if not isinstance(value, str):
        return False
    return 1 <= len(value) <= most and is_all_of(value, signs)


def is_name(value):
    return is_text_of(value, SMALL_LETTERS, NAME_LENGTH)


def is_plain(value):
    return is_text_of(value, PLAIN_SIGNS, PLAIN_LENGTH)


def each_once(things):
    # A dict keeps the order in which its keys came first.
    found = {}
    for thing in things:
        found[thing] = True
    return list(found)


def angled(text, signs):
    # By turns what stands outside of < and > and what stands within, beginning and ending outside; None where a sign
    # outside is not one of these, or where a < has no end.
    runs = text.split("<")
    cuts = [runs[0]]
    for run in runs[1:]:
        halves = run.partition(">")
        if halves[1] == "":
            return None
        cuts.extend([halves[0], halves[2]])
    return cuts if is_all_of("".join(cuts[::2]), signs) else None
