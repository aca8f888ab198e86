"""Scripts: commands for a book, one on each line, with one answer each."""

from tworooms.book import Book, decision_row
from tworooms.counts import score, sure_score
from tworooms.errors import BadRow, TooMany
from tworooms.names import MOST_DEEDS, MOST_ROWS, read_number
from tworooms.player import choose
from tworooms.rounds import standing
from tworooms.rows import (FORM, MISSING, ROW_KINDS, end_row, entry_at, hand_at_word, new_name_at, right_board_at,
                           stone_at, word_at)

MOST_LINES = 60


def run_line(book, line):
    """Runs the command of the line in the book; its answer."""
    try:
        return answer_to(book, line)
    except BadRow as refused:
        return f"refused {refused.word} {refused.reason}"


def run_script(text):
    """The answers to the lines of the text, and the book that they leave."""
    lines = text.split("\n")
    if len(lines) > MOST_LINES:
        raise TooMany("lines", MOST_LINES)
    book = Book()
    return ([run_line(book, line) for line in lines], book)


def answer_to(book, line):
    """The answer to a command, which is done; refuses the first word that is not allowed."""
    words = line.split(" ")
    if words[0] in ROW_KINDS:
        book.enter(line)
        return "ok"
    if words[0] == "undo":
        return undo_row(book, words)
    if words[0] == "decide":
        return file_decision(book, words)
    if words[0] == "auto":
        return play_on(book, words)
    return told_of(book, words)


def undo_row(book, words):
    """Takes back the last row."""
    if len(book) == 0:
        raise BadRow(1, MISSING)
    end_row(words, 1)
    book.undo()
    return "ok"


def file_decision(book, words):
    """Adds the row with the decision for a company; its word."""
    if len(book) >= MOST_ROWS:
        raise BadRow(1, "full")
    name = new_name_at(book, words, 2)
    place = stone_at(right_board_at(book, words, 3), words, 4)
    end_row(words, 4)
    book.enter(decision_row(book, name, words[2], place))
    _, _, word, _ = book.paper_at(name)
    return word


def play_on(book, words):
    """Adds the deeds of the player as rows; how many there are."""
    name = entry_at(book, words, 2, "game")
    most = count_at(words, 3)
    end_row(words, 3)
    added = 0
    while added < most and len(book) < MOST_ROWS and not book.game_of(name).over:
        book.enter(f"play {name} {choose(book.game_of(name))}")
        added += 1
    return f"played {added}"


def told_of(book, words):
    """The answer to a command that changes nothing."""
    if words[0] == "standing":
        return told_standing(book, words)
    if words[0] == "score":
        board = book.board_at(entry_at(book, words, 2, "board"))
        end_row(words, 2)
        return told_numbers(score(board))
    if words[0] == "sure":
        board = right_board_at(book, words, 2)
        end_row(words, 2)
        return told_numbers(sure_score(board))
    if words[0] == "turn":
        return told_turn(game_at(book, words))
    if words[0] == "show":
        return game_at(book, words).board.signs
    raise BadRow(1, FORM)


def told_standing(book, words):
    """The names of the standing companies of a hand."""
    board = right_board_at(book, words, 2)
    hand = hand_at_word(words, 3)
    end_row(words, 3)
    names = standing(board, hand)
    if len(names) == 0:
        return "none"
    return " ".join(names)


def told_turn(game):
    """The hand to move, or that the game is over."""
    if game.over:
        return "over"
    return game.turn


def told_numbers(numbers):
    """The numbers as words."""
    return " ".join([str(number) for number in numbers])


def game_at(book, words):
    """The game of a command that has no further word."""
    name = entry_at(book, words, 2, "game")
    end_row(words, 2)
    return book.game_of(name)


def count_at(words, number):
    """The number that the word of this number writes; it must be at most the number of deeds of a game."""
    most = read_number(word_at(words, number))
    if most is None or most > MOST_DEEDS:
        raise BadRow(number, FORM)
    return most
