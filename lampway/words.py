"""Texts cut into rows and words; number words and names among the words."""

FIGURES = "0123456789"
MOST_FIGURES = 3
MOST_TURN_FIGURES = 59
LETTERS = "abcdefghijklmnopqrstuvwxyz"
MOST_LETTERS = 8


def words(text):
    # Parted by the written signs: a bare split would lose the words without signs.
    return [row.split(" ") for row in text.split("\n")]


# Asked sign by sign of a written row: isdigit and islower take signs of other scripts too.
def is_made_of(word, signs, most):
    if word == "" or len(word) > most:
        return False
    return all([sign in signs for sign in word])


def is_number(word, most_figures):
    if not is_made_of(word, FIGURES, most_figures):
        return False
    return word == "0" or word[0] != "0"


def figured(word, low, high):
    if not is_number(word, MOST_FIGURES):
        return None
    number = int(word)
    if number < low or number > high:
        return None
    return number


def turned(word):
    if not is_number(word, MOST_TURN_FIGURES):
        return None
    return int(word)


def is_name(word):
    return is_made_of(word, LETTERS, MOST_LETTERS)
