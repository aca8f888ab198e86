"""Boards laid side by side and cut apart, with their papers, and the mirrored game."""

from tworooms.boards import Board
from tworooms.games import Game
from tworooms.names import other_hand
from tworooms.webs import Web


def beside(one, two):
    """The two boards side by side."""
    # The web refuses too many places, then too many ties, then the least place that is there twice.
    web = Web(one.web.places + two.web.places, one.web.ties + two.web.ties)
    signs = [one.sign(place) if place in one.web else two.sign(place) for place in web]
    return Board(web, "".join(signs))


def cut_apart(board):
    """The piece boards, in ascending order of their least places."""
    return [board_of_piece(board, piece) for piece in board.web.pieces()]


def piece_at(board, place):
    """The piece board that has the place."""
    return board_of_piece(board, piece_with(board.web, place))


def joined_rows(papers):
    """The rows of all papers, ascending; a row that is there several times stays so."""
    return sorted([row for paper in papers for row in paper])


def cut_rows(board, rows, place):
    """The rows whose company is in the piece that has the place, in their order."""
    piece = piece_with(board.web, place)
    return [row for row in rows if row[0] in piece]


def mirrored_game(game):
    """The game with the mirrored first board, the other first hand and the same deeds."""
    mirrored = Game(-game.first_board, other_hand(game.first_hand))
    for deed in game.deeds:
        mirrored.play(deed)
    return mirrored


def piece_with(web, place):
    """The places of the piece of the web that has the place, ascending."""
    return web.part(place, web.places)


def board_of_piece(board, piece):
    """The board on the places of the piece and the ties between them."""
    # A tie never leaves a piece, so one end tells where it lies.
    ties = [(one, two) for one, two in board.web.ties if one in piece]
    return Board(Web(piece, ties), "".join([board.sign(place) for place in piece]))
