"""The ladder: at which step a work is told apart, and its pointing [14] to [16]."""

from citeward.plain import SMALL_LETTERS


def fits(rows, text):
    return [place for place, row in enumerate(rows) if text in row]


def rival(rows, place, step):
    text = rows[place][step]
    for other, row in enumerate(rows):
        if other != place and text in row:
            return (other, row.index(text))
    return None


def step_of(rows, place):
    for step in range(len(rows[place])):
        if rival(rows, place, step) is None:
            return step
    return None


def letter(n):
    text = ""
    left = n
    # Less than 0 is left once the letter of a number up to 25 is told.
    while left >= 0:
        text = SMALL_LETTERS[left % 26] + text
        left = left // 26 - 1
    return text


def pointings(rows):
    told = []
    # How many works without a step have had a last text so far.
    counts = {}
    for place, row in enumerate(rows):
        step = step_of(rows, place)
        if step is None:
            number = counts.get(row[-1], 0)
            counts[row[-1]] = number + 1
            told.append(row[-1] + "^" + letter(number))
        else:
            told.append(row[step])
    return told


def letter_in(pointing):
    # The texts of a ladder are without this sign, so what stands behind it is the letter.
    return pointing.partition("^")[2]
