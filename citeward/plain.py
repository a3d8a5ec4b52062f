"""What a whole number, a pair, a name and a plain text are [2]."""

# The signs are written out: Python's own isalpha and isdigit let in letters and figures beyond ASCII.
SMALL_LETTERS = "abcdefghijklmnopqrstuvwxyz"
LETTERS = "ABCDEFGHIJKLMNOPQRSTUVWXYZabcdefghijklmnopqrstuvwxyz"
PLAIN_SIGNS = "ABCDEFGHIJKLMNOPQRSTUVWXYZabcdefghijklmnopqrstuvwxyz0123456789 .,!?'-/()&+*="
NAME_LENGTH = 8
PLAIN_LENGTH = 80


def is_whole(value):
    # True and False are ints to Python.
    return isinstance(value, int) and not isinstance(value, bool)


def is_pair(value):
    return isinstance(value, tuple) and len(value) == 2


def is_text_of(value, signs, most):
    if not isinstance(value, str):
        return False
    return 1 <= len(value) <= most and all([sign in signs for sign in value])


def is_name(value):
    return is_text_of(value, SMALL_LETTERS, NAME_LENGTH)


def is_plain(value):
    return is_text_of(value, PLAIN_SIGNS, PLAIN_LENGTH)
