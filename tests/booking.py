"""A plain second way to refuse the rows of a book, by the words of points [102] and [103]."""

import re

from tworooms.companies import is_right
from tworooms.errors import NoPlace
from tworooms.takings import is_decision

NAME = re.compile(r"[a-z][a-z0-9]{0,5}\Z")
KINDS = ("web", "board", "game", "play", "paper")


def has_name_form(word):
    return NAME.match(word) is not None


class Refused(Exception):
    """The reason for which a word is refused."""


def need(holds, reason):
    if not holds:
        raise Refused(reason)


def is_entry(book, name, kind):
    return name in book and book.entry_kind(name) == kind


def look_at_web_word(book, words, at):
    """Looks at a word of a web row behind its name."""
    slash = words.index("/") if "/" in words else len(words)
    if at <= slash:
        need(at < len(words), "form")
        need(words[at] != "/" or at > 2, "form")
        if words[at] != "/":
            need(has_name_form(words[at]) and at - 2 < 20, "form")
            need(at == 2 or words[at] > words[at - 1], "form")
    else:
        ties = [tuple(word.split("-")) for word in words[slash + 1:at + 1]]
        places = words[2:slash]
        need(len(ties) <= 60 and len(ties[-1]) == 2, "form")
        need(ties[-1][0] in places and ties[-1][1] in places and ties[-1][0] < ties[-1][1], "form")
        need(len(ties) == 1 or ties[-1] > ties[-2], "form")


def look_at_new_name(book, words):
    need(has_name_form(words[1]), "form")
    need(words[1] not in book, "used")


def look_at_board(book, words):
    need(has_name_form(words[2]), "form")
    need(is_entry(book, words[2], "board"), "missing")
    need(is_right(book.board_at(words[2])), "wrong")


def look_at_deed(book, words):
    need(has_name_form(words[2]) or words[2] == "-", "form")
    try:
        need(book.game_of(words[1]).fault(words[2]) is None, "wrong")
    except NoPlace:
        raise Refused("wrong") from None


def look_at_word(book, words, at):
    """Looks at the word of this index, the words in front of it being accepted; words[at] may be missing."""
    kind = words[0]
    if kind == "web" and at >= 2:
        look_at_web_word(book, words, at)
        return
    most = {"board": 4, "game": 4, "play": 3}.get(kind, len(words) if len(words) > 5 else 5)
    need(at < len(words), "form")
    need(at < most, "form")
    if at == 1 and kind == "play":
        need(has_name_form(words[1]), "form")
        need(is_entry(book, words[1], "game"), "missing")
    elif at == 1:
        look_at_new_name(book, words)
    elif at == 2 and kind == "play":
        look_at_deed(book, words)
    elif at == 2 and kind == "board":
        need(has_name_form(words[2]), "form")
        need(is_entry(book, words[2], "web"), "missing")
    elif at == 2:
        look_at_board(book, words)
    elif at == 3 and kind == "board":
        need(re.match(r"[.dl]+\Z", words[3]), "form")
        need(len(words[3]) == len(book.web_at(words[2])), "wrong")
    elif at == 3 and kind == "game":
        need(words[3] in ("dark", "light"), "form")
    elif at == 3:
        need(has_name_form(words[3]), "form")
        board = book.board_at(words[2])
        need(words[3] in board.web and board.sign(words[3]) != ".", "wrong")
    elif at == 4:
        need(words[4] in ("stands", "falls"), "form")
    else:
        names = words[at].split(":") if words[4] == "stands" else [words[at]]
        need(len(names) == (3 if words[4] == "stands" else 1) and all(map(has_name_form, names)), "form")


def plain_refusal(book, row):
    """The number and the reason of the word that is refused, or None."""
    words = row.split(" ")
    if len(book) == 60:
        return 1, "full"
    if words[0] not in KINDS:
        return 1, "form"
    least = {"web": 4, "board": 4, "game": 4, "play": 3, "paper": 5}[words[0]]
    for at in range(1, max(len(words), least)):
        try:
            look_at_word(book, words, at)
        except Refused as refused:
            return at + 1, str(refused)
    if words[0] == "web" and "/" not in words:
        return len(words) + 1, "form"
    if words[0] == "paper":
        paper = words[5:] if words[4] == "falls" else [tuple(word.split(":")) for word in words[5:]]
        if not is_decision(book.board_at(words[2]), words[3], words[4], paper):
            return 5, "wrong"
    return None


# The words behind the first one of each command that is no row.
COMMANDS = {"decide": ("name", "right board", "stone"), "standing": ("right board", "hand"), "score": ("board",),
            "sure": ("right board",), "turn": ("game",), "show": ("game",), "auto": ("game", "count"), "undo": ()}


def look_at_command_word(book, words, at, kind):
    """Looks at a word of a command, by what it should be."""
    word = words[at]
    if kind == "hand":
        need(word in ("dark", "light"), "form")
        return
    if kind == "count":
        need(re.match(r"(0|[1-9][0-9]?)\Z", word) and int(word) <= 60, "form")
        return
    need(has_name_form(word), "form")
    if kind == "name":
        need(word not in book, "used")
    elif kind == "stone":
        board = book.board_at(words[2])
        need(word in board.web and board.sign(word) != ".", "wrong")
    else:
        need(is_entry(book, word, kind.split()[-1]), "missing")
        need(kind != "right board" or is_right(book.board_at(word)), "wrong")


def plain_command_refusal(book, line):
    """The number and the reason of the word of a command that is refused, or None."""
    words = line.split(" ")
    if words[0] in KINDS:
        return plain_refusal(book, line)
    if words[0] not in COMMANDS:
        return 1, "form"
    if words[0] == "decide" and len(book) == 60:
        return 1, "full"
    if words[0] == "undo" and len(book) == 0:
        return 1, "missing"
    for at, kind in enumerate(COMMANDS[words[0]], 1):
        try:
            need(at < len(words), "form")
            look_at_command_word(book, words, at, kind)
        except Refused as refused:
            return at + 1, str(refused)
    if len(words) > len(COMMANDS[words[0]]) + 1:
        return len(COMMANDS[words[0]]) + 2, "form"
    return None
