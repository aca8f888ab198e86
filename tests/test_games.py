"""Points [22] to [25]: games, when they are over, coming back, faults and undo."""

import unittest

from helper import Case, PlainGame, all_boards, grid_web, path_web, plain_closed, plain_signs, play_on, ring_web
from tworooms.boards import Board, empty_board
from tworooms.errors import ComesBack, GameOver, NoHand, NoPlace, NothingDone, NotRight, Occupied, SelfTaking
from tworooms.games import Game
from tworooms.webs import Web

ERRORS = {"occupied": Occupied, "self-taking": SelfTaking, "comes-back": ComesBack}
TWO = path_web("ab")
THREE = path_web("abc")


def state_of(game):
    """Everything that a game tells of itself."""
    return (game.board.signs, game.first_board.signs, game.first_hand, game.turn, game.over, game.deeds, game.stood,
            game.open_deeds(), len(game), list(game))


def played(board, first, deeds):
    game = Game(board, first)
    for deed in deeds:
        game.play(deed)
    return game


class TestAgainstThePlainGame(Case):
    def check_state(self, game, plain):
        self.assertEqual(game.board, Board(plain.web, "".join(plain.signs.values())))
        self.assertEqual(game.first_board, Board(plain.web, plain.stood[0]))
        self.assertEqual(game.first_hand, plain.first)
        self.assertEqual(game.turn, None if plain.over() else plain.hand())
        self.assertIs(game.over, plain.over())
        self.assertEqual(game.deeds, plain.deeds)
        self.assertEqual(game.stood, list(dict.fromkeys(plain.stood)))
        self.assertEqual((len(game), list(game)), (len(plain.deeds), plain.deeds))

    def check_deeds(self, game, plain, depth):
        self.check_state(game, plain)
        let = []
        for deed in plain.web.places + ["-"]:
            fault, _, places = plain.look(deed)
            self.assertEqual(game.fault(deed), fault)
            if fault is None:
                let.append(deed)
                self.assertEqual(game.play(deed), places)
                if depth > 0:
                    self.check_deeds(game, plain.after(deed), depth - 1)
                else:
                    self.check_state(game, plain.after(deed))
                self.assertEqual(game.undo(), deed)
            else:
                error = GameOver() if fault == "over" else ERRORS[fault](deed)
                self.refused(error, game.play, deed)
            self.check_state(game, plain)
        self.assertEqual(game.open_deeds(), let)

    def test_all_short_games(self):
        for web, depth in ((Web("a", []), 3), (TWO, 8), (THREE, 5), (ring_web("abc"), 5), (path_web("abcd"), 3)):
            for first in ("dark", "light"):
                game = Game(empty_board(web), first)
                self.check_deeds(game, PlainGame(game.first_board, first), depth)

    def test_from_all_right_boards(self):
        for web in (THREE, ring_web("abcd")):
            for board in all_boards(web):
                if not plain_closed(web, plain_signs(board)):
                    self.check_deeds(Game(board, "light"), PlainGame(board, "light"), 1)

    def test_long_games(self):
        for web, step in ((grid_web(3, 3), 3), (path_web("abcdef"), 1), (path_web("abcdef"), 4), (ring_web("abcde"), 6)):
            game = play_on(Game(empty_board(web), "light"), step)
            again, plain = Game(empty_board(web), "light"), PlainGame(empty_board(web), "light")
            for deed in game.deeds:
                self.check_deeds(again, plain, 0)
                again.play(deed)
                plain = plain.after(deed)
            self.check_deeds(again, plain, 0)
            self.assertEqual(again, game)


class TestGame(Case):
    def test_making(self):
        board = Board(THREE, "d..")
        game = Game(board=board, first="light")
        self.assertEqual(state_of(game), ("d..", "d..", "light", "light", False, [], ["d.."], ["b", "c", "-"], 0, []))
        self.assertEqual((game.board, game.first_board), (board, board))

    def test_no_hand_and_not_right(self):
        for hand in ("", "Dark", "d", "a"):
            self.refused(NoHand(hand), Game, Board(THREE, "..."), hand)
            self.refused(NoHand(hand), Game, Board(THREE, "dl."), hand)
        self.refused(NotRight("a"), Game, Board(THREE, "dl."), "dark")
        self.refused(NotRight("c"), Game, Board(path_web("abcd"), ".ldl"), "light")

    def test_turns(self):
        game = Game(empty_board(path_web("abcde")), "light")
        for deed, turn in (("a", "dark"), ("b", "light"), ("-", "dark"), ("d", "light")):
            game.play(deed=deed)
            self.assertEqual(game.turn, turn)
        self.assertEqual(game.board.signs, ".d.d.")

    def test_play_tells_what_was_taken(self):
        game = Game(Board(path_web("abcd"), "dd.."), "light")
        self.assertEqual(game.play("c"), ["a", "b"])
        self.assertEqual(game.play("-"), [])
        self.assertEqual(game.play("a"), [])

    def test_over_by_two_passes(self):
        game = Game(Board(THREE, "d.."), "dark")
        self.assertEqual(game.play("-"), [])
        self.assertEqual((game.over, game.turn, game.board.signs), (False, "light", "d.."))
        game.play("c")
        game.play("-")
        self.assertIs(game.over, False)
        game.play("-")
        self.assertEqual((game.over, game.turn, game.open_deeds()), (True, None, []))
        for deed in "abc-":
            self.assertEqual(game.fault(deed), "over")
            self.refused(GameOver(), game.play, deed)
        self.assertEqual(game.deeds, ["-", "c", "-", "-"])
        self.assertEqual(game.undo(), "-")
        self.assertEqual((game.over, game.turn, game.fault("-")), (False, "light", None))

    def test_over_by_sixty_deeds(self):
        for first in ("dark", "light"):
            game = play_on(Game(empty_board(grid_web(4, 5)), first), 1)
            self.assertEqual((len(game), game.over, game.turn), (60, True, None))
            self.assertNotEqual(game.deeds[-2:], ["-", "-"])
            for deed in game.board.web.places + ["-"]:
                self.assertEqual(game.fault(deed), "over")
            self.refused(GameOver(), game.play, "-")
            self.assertEqual(game.open_deeds(), [])
            game.undo()
            self.assertEqual((len(game), game.over), (59, False))
            self.assertEqual(game.turn, "light" if first == "dark" else "dark")
            self.assertIsNone(game.fault("-"))

    def test_a_pass_is_never_refused_before_the_end(self):
        game = play_on(Game(empty_board(path_web("abcdef")), "dark"), 1)
        while len(game) > 0:
            game.undo()
            self.assertIsNone(game.fault("-"))
            self.assertEqual(game.open_deeds()[-1], "-")

    def test_coming_back_to_the_first_board(self):
        game = played(Board(TWO, "d."), "light", ["b"])
        self.assertEqual(game.board.signs, ".l")
        self.assertEqual(game.fault(deed="a"), "comes-back")
        self.refused(ComesBack("a"), game.play, "a")
        self.assertEqual(game.open_deeds(), ["-"])
        self.assertEqual(game.stood, ["d.", ".l"])

    def test_coming_back_to_a_later_board_of_the_other_turn(self):
        game = played(empty_board(THREE), "dark", ["a", "c", "b", "c"])
        self.assertEqual(game.stood, ["...", "d..", "d.l", "dd.", "..l"])
        self.assertEqual((game.turn, game.fault("a")), ("dark", "comes-back"))
        self.refused(ComesBack("a"), game.play, "a")
        game = played(Board(path_web("abcd"), "..d."), "dark", ["a", "-", "b", "d"])
        self.assertEqual(game.fault("c"), "comes-back")

    def test_the_first_fault_that_holds(self):
        game = played(Board(TWO, "d."), "light", ["b"])
        self.assertEqual(game.fault("b"), "occupied")
        game.play("-")
        game.play("-")
        self.assertEqual([game.fault(deed) for deed in ("a", "b", "-")], ["over"] * 3)
        game = Game(Board(THREE, ".d."), "light")
        self.assertEqual([game.fault(deed) for deed in ("a", "b", "c", "-")],
                         ["self-taking", "occupied", "self-taking", None])
        self.refused(SelfTaking("a"), game.play, "a")
        self.refused(Occupied("b"), game.play, "b")

    def test_no_place(self):
        game = Game(Board(THREE, "..."), "dark")
        for deeds in ([], ["-", "-"]):
            for deed in deeds:
                game.play(deed)
            for text in ("z", "", "--", "A", "ab", "a ", "pass"):
                self.refused(NoPlace(text), game.fault, text)
                self.refused(NoPlace(text), game.play, text)
        self.assertEqual(game.deeds, ["-", "-"])

    def test_stood_has_each_board_once(self):
        game = played(Board(path_web("abcd"), "...."), "dark", ["-", "a", "-", "d", "-"])
        self.assertEqual(game.stood, ["....", "l...", "l..l"])
        game.undo()
        game.undo()
        self.assertEqual(game.stood, ["....", "l..."])

    def test_undo(self):
        self.refused(NothingDone(), Game(Board(THREE, "..."), "dark").undo)
        for step in (1, 3, 4, 6):
            game = play_on(Game(empty_board(ring_web("abcde")), "dark"), step)
            deeds = game.deeds
            for many in range(len(deeds) - 1, -1, -1):
                self.assertEqual(game.undo(), deeds[many])
                self.assertEqual(state_of(game), state_of(played(game.first_board, "dark", deeds[:many])))
            self.refused(NothingDone(), game.undo)

    def test_undo_forgets_the_board(self):
        game = played(empty_board(TWO), "dark", ["a", "b"])
        self.assertEqual(game.fault("a"), "comes-back")
        game.undo()
        game.undo()
        self.assertIsNone(game.fault("a"))
        game.play("-")
        game.play("a")
        self.assertEqual((game.deeds, game.stood), (["-", "a"], ["..", "l."]))

    def test_a_refused_deed_changes_nothing(self):
        game = play_on(Game(empty_board(THREE), "dark"), 1)
        for _ in range(len(game) + 1):
            before = state_of(game)
            for deed in ("a", "b", "c", "-", "z"):
                try:
                    game.play(deed)
                except (GameOver, Occupied, SelfTaking, ComesBack, NoPlace):
                    self.assertEqual(state_of(game), before)
                else:
                    game.undo()
                    self.assertEqual(state_of(game), before)
            if len(game) > 0:
                game.undo()

    def test_twin(self):
        game = played(Board(path_web("abcd"), "d..."), "light", ["c", "-"])
        twin = game.twin()
        self.assertEqual(twin, game)
        self.assertIsNot(twin, game)
        self.assertEqual(state_of(twin), state_of(game))
        before = state_of(game)
        twin.play("b")
        self.assertEqual(state_of(game), before)
        self.assertNotEqual(twin, game)
        for _ in range(3):
            twin.undo()
        self.assertEqual(state_of(game), before)
        game.undo()
        self.assertEqual(len(twin), 0)

    def test_equality(self):
        game = played(Board(THREE, "d.."), "light", ["c", "-"])
        self.assertTrue(game == played(Board(THREE, "d.."), "light", ["c", "-"]))
        self.assertFalse(game != played(Board(THREE, "d.."), "light", ["c", "-"]))
        others = [played(Board(THREE, "d.."), "light", ["c"]), played(Board(THREE, "d.."), "light", ["-", "-"]),
                  played(Board(THREE, "d.."), "dark", ["c", "-"]), played(Board(THREE, "..."), "light", ["c", "-"]),
                  played(Board(ring_web("abc"), "d.."), "light", ["c", "-"]), game.board, ["c", "-"], None, 0]
        for other in others:
            self.assertIs(game == other, False)
            self.assertIs(game != other, True)
        self.assertNotEqual(Game(Board(THREE, "..."), "dark"), Game(Board(THREE, "..."), "light"))

    def test_told_lists_are_new(self):
        game = Game(Board(path_web("abcd"), "dd.."), "light")
        game.play("c").append("x")
        before = state_of(game)
        for told in (game.deeds, game.stood, game.open_deeds()):
            told.append("x")
            told.reverse()
        game.board.bearing("l").append("x")
        self.assertEqual(state_of(game), before)

    def test_iteration(self):
        game = played(Board(THREE, "..."), "dark", ["a", "-", "-"])
        self.assertEqual([deed for deed in game], ["a", "-", "-"])
        self.assertEqual((list(game), len(game)), (game.deeds, 3))


if __name__ == "__main__":
    unittest.main()
