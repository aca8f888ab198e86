"""Points [96] to [98]: boards side by side and cut apart, papers joined and cut, the mirrored game."""

import itertools
import unittest

from helper import (TWO_COMBS, Case, PlainRooms, all_boards, drawn_boards, grid_web, other, path_web, plain_parts,
                    plain_signs, play_on, right_boards, ring_web)
from tworooms.boards import Board, empty_board
from tworooms.companies import is_right
from tworooms.counts import sure_places
from tworooms.errors import NoPlace, Repeated, TooMany
from tworooms.games import Game
from tworooms.joining import beside, cut_apart, cut_rows, joined_rows, mirrored_game, piece_at
from tworooms.papers import is_stand_paper, stand_paper
from tworooms.records import boards_of, takings_of
from tworooms.rooms import rooms_of
from tworooms.rounds import standing
from tworooms.webs import Web

HANDS = ("dark", "light")
# Two paths and a lone place; the names of the pieces are mixed.
PIECES = Web("abcdefg", [("a", "c"), ("c", "e"), ("b", "d"), ("d", "f")])


def lone_web(letters, many):
    """So many places for each letter, without ties."""
    return Web([f"{letter}{k}" for letter in letters for k in range(many)], [])


def plain_pieces(board):
    """The piece boards, by the words of point [97]."""
    signs, told = plain_signs(board), []
    for part in plain_parts(board.web, board.web.places):
        ties = [tie for tie in board.web.ties if set(tie) <= set(part)]
        told.append(Board(Web(part, ties), "".join(signs[place] for place in part)))
    return told


class TestBeside(Case):
    def test_all_pairs_of_small_boards(self):
        for one, two in itertools.product(all_boards(path_web("ac")), all_boards(path_web("bde"))):
            told = Board(Web("abcde", [("a", "c"), ("b", "d"), ("d", "e")]),
                         one.signs[0] + two.signs[0] + one.signs[1] + two.signs[1:])
            self.assertEqual(beside(one, two), told)
            self.assertEqual(beside(one=two, two=one), told)
            self.assertEqual(is_right(told), is_right(one) and is_right(two))

    def test_what_is_told_of_the_joined_board(self):
        boards = list(right_boards(path_web("abcd")))[::3] + drawn_boards(path_web("abcdefgh"), 10, "...dddl")
        for one, two in itertools.product(boards[::2], boards[1::2]):
            names = {place: "x" + place for place in two.web.places}
            led = Board(Web(list(names.values()), [(names[a], names[b]) for a, b in two.web.ties]), two.signs)
            joined = beside(one, led)
            for hand in HANDS:
                for tell in (standing, sure_places):
                    self.assertEqual(tell(joined, hand), sorted(tell(one, hand) + tell(led, hand)))
                self.assertEqual(rooms_of(joined, hand), sorted(rooms_of(one, hand) + rooms_of(led, hand)))
                rows = joined_rows([stand_paper(led, hand), stand_paper(one, hand)])
                self.assertIs(is_stand_paper(joined, hand, rows), True)
                self.assertEqual(rows, stand_paper(joined, hand))
                self.assertEqual(cut_rows(joined, rows, one.web.places[-1]), stand_paper(one, hand))

    def test_most_places_and_ties(self):
        one, two = empty_board(lone_web("a", 10)), empty_board(lone_web("b", 10))
        self.assertEqual(len(beside(one, two).web), 20)
        eleven = empty_board(lone_web("c", 11))
        self.refused(TooMany("places", 20), beside, one, eleven)
        self.refused(TooMany("places", 20), beside, eleven, one)
        # Common places count twice.
        self.refused(TooMany("places", 20), beside, eleven, eleven)
        thirty = list(itertools.combinations([f"a{k}" for k in range(10)], 2))[:30]
        one = empty_board(Web(one.web.places, thirty))
        turned = [(left.replace("a", "b"), right.replace("a", "b")) for left, right in thirty]
        two = empty_board(Web(two.web.places, turned))
        self.assertEqual(len(beside(one, two).web.ties), 60)
        more = empty_board(Web(two.web.places, turned + [("b8", "b9")]))
        self.refused(TooMany("ties", 60), beside, one, more)
        self.refused(TooMany("ties", 60), beside, more, one)
        self.refused(TooMany("ties", 60), beside, more, more)
        # More places go ahead of more ties, and both ahead of a common place.
        wide = empty_board(Web(two.web.places + ["a0"], turned + [("b8", "b9")]))
        self.refused(TooMany("places", 20), beside, one, wide)
        self.refused(Repeated("a0"), beside, one, one)

    def test_common_places(self):
        one, two = Board(path_web("bxca"), "dddd"), Board(path_web("zcyx"), "....")
        self.refused(Repeated("c"), beside, one, two)
        self.refused(Repeated("c"), beside, two, one)
        self.refused(Repeated("b"), beside, Board(Web("ab", []), ".."), Board(Web("bc", []), "dl"))

    def test_the_given_boards_stay(self):
        one, two = Board(path_web("ab"), "d."), Board(path_web("cd"), ".l")
        beside(one, two)
        self.assertEqual((one, two), (Board(path_web("ab"), "d."), Board(path_web("cd"), ".l")))


class TestCut(Case):
    def boards(self):
        """Boards of webs with several pieces, right or not."""
        return itertools.chain(itertools.islice(all_boards(PIECES), 0, None, 5), all_boards(Web("abc", [("a", "c")])),
                               drawn_boards(TWO_COMBS, 30), all_boards(path_web("abc")))

    def test_all_pieces(self):
        for board in self.boards():
            told = plain_pieces(board)
            self.assertEqual(cut_apart(board), told)
            for piece in told:
                for place in piece.web.places:
                    self.assertEqual(piece_at(board, place), piece)
            self.assertEqual(is_right(board), all(is_right(piece) for piece in told))
            whole = told[0]
            for piece in told[1:]:
                whole = beside(piece, whole)
            self.assertEqual(whole, board)

    def test_standing_and_rooms_are_those_of_the_pieces(self):
        for board in drawn_boards(TWO_COMBS, 60):
            for hand in HANDS:
                pieces = cut_apart(board)
                self.assertEqual(standing(board, hand), sorted(sum([standing(piece, hand) for piece in pieces], [])))
                self.assertEqual(standing(board, hand), PlainRooms(board, hand).standing())
                papers = [stand_paper(piece, hand) for piece in pieces]
                self.assertEqual(joined_rows(papers), stand_paper(board, hand))
                for piece, paper in zip(pieces, papers):
                    for place in piece.web.places:
                        self.assertEqual(cut_rows(board, stand_paper(board, hand), place), paper)

    def test_one_piece(self):
        board = Board(PIECES, "d.l.d.l")
        self.assertEqual(piece_at(board=board, place="c"), Board(path_web("ace"), "dld"))
        self.assertEqual([piece.web.places for piece in cut_apart(board=board)],
                         [["a", "c", "e"], ["b", "d", "f"], ["g"]])
        for place in ("z", "", "-", "A"):
            self.refused(NoPlace(place), piece_at, board, place)
            self.refused(NoPlace(place), cut_rows, board, [("a", "b", "c")], place)
        cut_apart(board).append("x")
        self.assertEqual(len(cut_apart(board)), 3)

    def test_rows(self):
        papers = [[("b", "a", "c"), ("a", "z", "")], [], [("b", "a", "c"), ("b", "a", "b"), ("", "-", "x y")]]
        told = [("", "-", "x y"), ("a", "z", ""), ("b", "a", "b"), ("b", "a", "c"), ("b", "a", "c")]
        self.assertEqual(joined_rows(papers=papers), told)
        self.assertEqual(papers[0], [("b", "a", "c"), ("a", "z", "")])
        self.assertEqual((joined_rows([]), joined_rows([[], []])), ([], []))
        board = Board(PIECES, "lllllll")
        rows = [("e", "x", "y"), ("b", "a", "c"), ("", "a", "c"), ("ac", "a", "c"), ("a", "", "-"), ("e", "x", "y"),
                ("-", "a", "a"), ("g", "g", "g"), ("a ", "a", "a")]
        self.assertEqual(cut_rows(board=board, rows=rows, place="c"), [rows[0], rows[4], rows[5]])
        self.assertEqual(cut_rows(board, rows, "g"), [("g", "g", "g")])
        self.assertEqual(cut_rows(board, rows, "f"), [("b", "a", "c")])
        self.assertEqual(cut_rows(board, [], "f"), [])
        cut_rows(board, rows, "f").append("x")
        self.assertEqual(len(rows), 9)


class TestMirrored(Case):
    def test_mirrored_games(self):
        boards = drawn_boards(grid_web(3, 3), 12, "....dl") + drawn_boards(ring_web("abcde"), 12, "...dl")
        for board, first, step in itertools.product(boards, HANDS, (1, 2)):
            game = play_on(Game(board, first), step)
            told = mirrored_game(game=game)
            self.assertEqual((told.first_board, told.first_hand), (-board, other(first)))
            self.assertEqual((told.deeds, told.over), (game.deeds, True))
            self.assertEqual(boards_of(told), [-now for now in boards_of(game)])
            self.assertEqual(takings_of(told), takings_of(game))
            self.assertEqual(mirrored_game(told), game)

    def test_a_mirrored_game_is_new(self):
        game = Game(empty_board(path_web("abc")), "light")
        mirrored_game(game).play("a")
        self.assertEqual(len(game), 0)
        game.play("-")
        self.assertEqual(mirrored_game(game).turn, "light")


if __name__ == "__main__":
    unittest.main()
