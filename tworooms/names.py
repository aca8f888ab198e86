"""Hands, signs, place names, numbers and words."""

from tworooms.errors import BadNumber, NoHand

DARK = "dark"
LIGHT = "light"
HANDS = ("dark", "light")
PASS = "-"
FREE = "."
MOST_PLACES = 20
MOST_TIES = 60
MOST_DEEDS = 60
MOST_NODES = 60
MOST_DEPTH = 12
MOST_BUDGET = 400
MOST_BOARDS = 400
MOST_SETS = 150
MOST_ROWS = 60

SIGNS = (".", "d", "l")
SIGN_OF_HAND = {"dark": "d", "light": "l"}
HAND_OF_SIGN = {"d": "dark", "l": "light"}
LETTERS = "abcdefghijklmnopqrstuvwxyz"
DIGITS = "0123456789"
LONGEST_NAME = 6
MOST_DIGITS = 20


def check_hand(hand):
    """Raises NoHand for a text that is no hand."""
    if hand not in HANDS:
        raise NoHand(hand)


def other_hand(hand):
    """The other hand of a hand."""
    check_hand(hand)
    if hand == DARK:
        return LIGHT
    return DARK


def sign_of(hand):
    """The sign of a stone of the hand."""
    check_hand(hand)
    return SIGN_OF_HAND[hand]


def hand_of(sign):
    """The hand whose stones have this sign, or None."""
    return HAND_OF_SIGN.get(sign)


def is_name(text):
    """Whether the text has the form of a place name."""
    if not 1 <= len(text) <= LONGEST_NAME or text[0] not in LETTERS:
        return False
    return all([letter in LETTERS or letter in DIGITS for letter in text])


def is_number(value):
    """Whether the value is an integer and neither True nor False."""
    # Python counts True and False as integers; the program does not.
    return isinstance(value, int) and not isinstance(value, bool)


def check_number(what, value, least, most):
    """The value, if it is a number within the bounds."""
    if not is_number(value) or not least <= value <= most:
        raise BadNumber(what, value)
    return value


def split_words(text):
    """The words of each line of a text."""
    return [line.split(" ") for line in text.split("\n")]


def join_words(lines):
    """The text whose lines have these words."""
    return "\n".join([" ".join(words) for words in lines])


def read_number(word):
    """The integer that the word writes, or None if it has not that form."""
    if not 1 <= len(word) <= MOST_DIGITS or not all([digit in DIGITS for digit in word]):
        return None
    if word[0] == "0" and len(word) > 1:
        return None
    return int(word)
