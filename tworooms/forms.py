"""What the readers of the text forms share: each step refuses the first word that is not allowed."""

from tworooms.errors import BadText


def words_behind(lines, number, key):
    """The words behind the key, which must be the first word of the line."""
    if number > len(lines) or lines[number - 1][0] != key:
        raise BadText(number, 1)
    return lines[number - 1][1:]


def word_behind(lines, number, key):
    """The word behind the key, which must be the first word of the line."""
    words = words_behind(lines, number, key)
    if len(words) == 0:
        raise BadText(number, 2)
    return words[0]


def end_line(lines, number, most):
    """Refuses a word behind the last one that the line may have."""
    if len(lines[number - 1]) > most:
        raise BadText(number, most + 1)


def end_text(lines, most):
    """Refuses a line behind the last one that the text may have."""
    if len(lines) > most:
        raise BadText(most + 1, 1)
