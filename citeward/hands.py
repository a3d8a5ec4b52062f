"""Hands: read from a text, shown as one, and told short [5] to [7]."""

from citeward.errors import NoHands
from citeward.plain import LETTERS, is_text_of

WORD_LENGTH = 15
MOST_GIVENS = 4
MOST_HANDS = 6


def read_hands(text):
    if not isinstance(text, str):
        raise NoHands("hands are read from a text alone")
    parts = text.split(" & ")
    if len(parts) > MOST_HANDS:
        raise NoHands("there are more hands than six")
    return [read_hand(part) for part in parts]


def read_hand(text):
    halves = text.partition(", ")
    # By the comma, not by what stands behind it: a comma with nothing behind it is refused.
    givens = halves[2].split(" ") if halves[1] == ", " else []
    if len(givens) > MOST_GIVENS:
        raise NoHands("a hand has more givens than four")
    for word in [halves[0]] + givens:
        if not is_text_of(word, LETTERS, WORD_LENGTH):
            raise NoHands("a word of a hand is one to fifteen letters")
    return (halves[0], tuple(givens))


def show_hands(hands):
    return " & ".join([show_hand(hand) for hand in hands])


def show_hand(hand):
    if len(hand[1]) == 0:
        return hand[0]
    return hand[0] + ", " + " ".join(hand[1])


def told_hand(hand, way):
    if way == 0:
        return hand[0]
    if way == 1:
        return "".join([given[:1] + ". " for given in hand[1]]) + hand[0]
    return "".join([given + " " for given in hand[1]]) + hand[0]


def told_hands(hands, many, way):
    texts = [told_hand(hand, way) for hand in hands]
    if len(texts) > many:
        return ", ".join(texts[:many]) + " and others"
    if len(texts) < 2:
        return "".join(texts)
    return ", ".join(texts[:-1]) + " and " + texts[-1]
