"""Records of games: their text form, replaying, and what can be told of a game afterwards."""

from tworooms.boards import board_in, write_board
from tworooms.companies import check_right, is_right
from tworooms.errors import BadDeed, BadText, NoPlace
from tworooms.forms import end_line, end_text, word_behind, words_behind
from tworooms.games import Game, check_deed
from tworooms.names import HANDS, check_hand, join_words, split_words


def write_record(game):
    """The text form of a game."""
    start = f"{write_board(game.first_board)}\nfirst {game.first_hand}\n"
    return start + join_words([["deeds"] + game.deeds])


def read_record(text):
    """The game that the text writes."""
    lines = split_words(text)
    game = game_in(lines)
    for at, deed in enumerate(words_behind(lines, 5, "deeds")):
        if not is_let(game, deed):
            raise BadText(5, at + 2)
        game.play(deed)
    end_text(lines, 5)
    return game


def is_record(text):
    """Whether the text is a record."""
    try:
        read_record(text)
    except BadText:
        return False
    return True


def replay(board, first, deeds):
    """The game from the board and the first hand after the deeds."""
    check_hand(first)
    for deed in deeds:
        check_deed(board.web, deed)
    game = Game(board, first)
    for at, deed in enumerate(deeds):
        fault = game.fault(deed)
        if fault is not None:
            raise BadDeed(at, fault)
        game.play(deed)
    return game


def is_game(board, first, deeds):
    """Whether the deeds can be replayed from the board and the first hand."""
    # A wrong hand or board is told even if a deed is no place.
    check_hand(first)
    check_right(board)
    try:
        replay(board, first, deeds)
    except (NoPlace, BadDeed):
        return False
    return True


def boards_of(game):
    """The boards after 0, 1, .. deeds of the game."""
    again = Game(game.first_board, game.first_hand)
    boards = [again.board]
    for deed in game.deeds:
        again.play(deed)
        boards.append(again.board)
    return boards


def takings_of(game):
    """For each deed of the game, the places whose stones it took off, ascending."""
    again = Game(game.first_board, game.first_hand)
    return [again.play(deed) for deed in game.deeds]


def common_start(one, two):
    """The number of deeds with which both games begin alike."""
    if one.first_hand != two.first_hand or one.first_board != two.first_board:
        return 0
    alike = 0
    for left, right in zip(one.deeds, two.deeds):
        if left != right:
            break
        alike += 1
    return alike


def game_in(lines):
    """The game without deeds that the first four lines write; nothing behind them is looked at."""
    board = board_in(lines)
    if not is_right(board):
        raise BadText(3, 2)
    end_line(lines, 3, 2)
    first = word_behind(lines, 4, "first")
    if first not in HANDS:
        raise BadText(4, 2)
    end_line(lines, 4, 2)
    return Game(board, first)


def is_let(game, deed):
    """Whether the text is a deed that is let in the game."""
    try:
        return game.fault(deed) is None
    except NoPlace:
        return False
