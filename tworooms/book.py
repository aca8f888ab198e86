"""Books: named webs, boards, games and papers, made by rows, and the text form of a book."""

from tworooms.boards import Board
from tworooms.errors import BadRow, BadText, NoEntry, NothingDone
from tworooms.games import Game
from tworooms.names import MOST_ROWS
from tworooms.rows import (FORM, ROW_KINDS, deed_at, end_row, entry_at, hand_at_word, new_name_at, paper_at_word,
                           places_at, right_board_at, signs_at, stone_at, ties_at)
from tworooms.takings import decide
from tworooms.webs import Web


class Book:
    """Rows and the entries that they make; entering and undoing change it."""

    def __init__(self):
        self._rows = []
        # The kind and the thing of each entry, by its name.
        self._kinds = {}
        self._things = {}

    def enter(self, row):
        """Adds the row, or refuses it."""
        words = row.split(" ")
        if len(self._rows) >= MOST_ROWS:
            raise BadRow(1, "full")
        kind = words[0]
        if kind not in ROW_KINDS:
            raise BadRow(1, FORM)
        if kind == "play":
            self._play(words)
        else:
            name = new_name_at(self, words, 2)
            self._things[name] = thing_in(self, words)
            self._kinds[name] = kind
        self._rows.append(row)

    def undo(self):
        """Takes back the last row and returns it."""
        if len(self._rows) == 0:
            raise NothingDone()
        row = self._rows.pop()
        words = row.split(" ")
        name = words[1]
        if words[0] == "play":
            self._things[name].undo()
        else:
            # No row is left that could need the entry.
            del self._things[name]
            del self._kinds[name]
        return row

    def entries(self):
        """The names of the entries, ascending."""
        return sorted(self._kinds)

    def entry_kind(self, name):
        """What the entry is: a web, a board, a game or a paper."""
        if name not in self._kinds:
            raise NoEntry(name)
        return self._kinds[name]

    def web_at(self, name):
        """The web of this name."""
        return self._thing_of(name, "web")

    def board_at(self, name):
        """The board of this name."""
        return self._thing_of(name, "board")

    def game_of(self, name):
        """A new game equal to the one of this name."""
        return self._thing_of(name, "game").twin()

    def paper_at(self, name):
        """The paper of this name: (name of the board entry, place, word, paper)."""
        board_name, place, word, paper = self._thing_of(name, "paper")
        return (board_name, place, word, list(paper))

    def twin(self):
        """A new equal book that shares nothing with this one."""
        twin = Book()
        twin._rows = list(self._rows)
        twin._kinds = dict(self._kinds)
        # Games are the only things that change.
        twin._things = {name: self.game_of(name) if self._kinds[name] == "game" else self._things[name]
                        for name in self._kinds}
        return twin

    def _play(self, words):
        """Plays the deed of a play row."""
        game = self._things[entry_at(self, words, 2, "game")]
        deed = deed_at(game, words, 3)
        end_row(words, 3)
        game.play(deed)

    def _thing_of(self, name, kind):
        """The thing of the entry of this name and kind."""
        if self._kinds.get(name) != kind:
            raise NoEntry(name)
        return self._things[name]

    def __len__(self):
        return len(self._rows)

    def __iter__(self):
        return iter(self._rows)

    def __contains__(self, x):
        return x in self._kinds

    def __eq__(self, other):
        return isinstance(other, Book) and self._rows == other._rows


def write_book(book):
    """The text form of a book."""
    return "\n".join(list(book))


def read_book(text):
    """The book that the text writes."""
    book = Book()
    fault = enter_all(book, text)
    if fault is not None:
        line, word, _ = fault
        raise BadText(line, word)
    return book


def audit(text):
    """The line, the word and the reason of the first row of the text that a book refuses, or None."""
    return enter_all(Book(), text)


def first_difference(one, two):
    """The least index at which one of the books has no row or their rows differ, or None."""
    left = list(one)
    right = list(two)
    for at in range(max(len(left), len(right))):
        if left[at:at + 1] != right[at:at + 1]:
            return at
    return None


def decision_row(book, name, board_name, place):
    """The row that files the decision for the company of the place under the name."""
    word, paper = decide(book.board_at(board_name), place)
    return " ".join(["paper", name, board_name, place, word] + paper_words(word, paper))


def paper_words(word, paper):
    """The words of a decision behind its word."""
    if word == "stands":
        return [":".join(row) for row in paper]
    return paper


def enter_all(book, text):
    """Enters the rows of the text up to the first that is refused; its line, word and reason, or None."""
    if text == "":
        return None
    for at, row in enumerate(text.split("\n")):
        try:
            book.enter(row)
        except BadRow as refused:
            return (at + 1, refused.word, refused.reason)
    return None


def thing_in(book, words):
    """The thing that a row makes, from the words behind its name."""
    if words[0] == "web":
        return web_in_row(words)
    if words[0] == "board":
        return board_in_row(book, words)
    if words[0] == "game":
        return game_in_row(book, words)
    return paper_in_row(book, words)


def web_in_row(words):
    """The web that a row makes."""
    places = places_at(words, 3)
    return Web(places, ties_at(words, len(places) + 4, places))


def board_in_row(book, words):
    """The board that a row makes."""
    web = book.web_at(entry_at(book, words, 3, "web"))
    signs = signs_at(web, words, 4)
    end_row(words, 4)
    return Board(web, signs)


def game_in_row(book, words):
    """The game that a row makes."""
    board = right_board_at(book, words, 3)
    first = hand_at_word(words, 4)
    end_row(words, 4)
    return Game(board, first)


def paper_in_row(book, words):
    """The paper that a row files: (name of the board entry, place, word, paper)."""
    board = right_board_at(book, words, 3)
    place = stone_at(board, words, 4)
    word, paper = paper_at_word(board, place, words, 5)
    return (words[2], place, word, paper)
