"""Points [26] and [27]: records of games, replaying, and what is told of a game afterwards."""

import unittest

from helper import Case, PlainGame, all_boards, grid_web, path_web, plain_closed, plain_signs, play_on, ring_web
from tworooms.boards import Board, empty_board
from tworooms.errors import BadDeed, BadText, NoHand, NoPlace, NotRight
from tworooms.games import Game
from tworooms.records import (boards_of, common_start, is_game, is_record, read_record, replay, takings_of,
                              write_record)
from tworooms.webs import Web

THREE = path_web("abc")
HEAD = "places a b c\nties a-b b-c\n"


def games_to_compare():
    """Games of all lengths, short and long, with takings and passes."""
    for web in (Web("a", []), path_web("ab"), THREE):
        for board in all_boards(web):
            if not plain_closed(web, plain_signs(board)):
                for first in ("dark", "light"):
                    yield Game(board, first)
                    yield play_on(Game(board, first), 1)
    for web, step in ((grid_web(4, 5), 1), (ring_web("abcde"), 6), (path_web("abcdef"), 4), (grid_web(3, 3), 1)):
        yield play_on(Game(empty_board(web), "light"), step)


class TestRecords(Case):
    def test_the_document_example(self):
        game = read_record("places a b c\nties a-b b-c\nboard d..\nfirst light\ndeeds b -")
        self.assertEqual((game.board.signs, game.turn), (".l.", "light"))

    def test_writing(self):
        game = Game(Board(THREE, "d.."), "light")
        self.assertEqual(write_record(game), HEAD + "board d..\nfirst light\ndeeds")
        game.play("b")
        game.play("-")
        self.assertEqual(write_record(game=game), HEAD + "board d..\nfirst light\ndeeds b -")
        self.assertEqual(write_record(Game(Board(Web("a", []), "."), "dark")),
                         "places a\nties\nboard .\nfirst dark\ndeeds")

    def test_reading_back(self):
        for game in games_to_compare():
            text = write_record(game)
            again = read_record(text)
            self.assertEqual(again, game)
            self.assertEqual((again.board, again.turn, again.stood), (game.board, game.turn, game.stood))
            self.assertIs(is_record(text), True)
        self.assertEqual(read_record(text=HEAD + "board ...\nfirst dark\ndeeds"), Game(empty_board(THREE), "dark"))

    def check_wrong(self, told):
        for text, (line, word) in told.items():
            self.refused(BadText(line, word), read_record, text)
            self.assertIs(is_record(text=text), False)

    def test_first_wrong_word_ahead_of_the_deeds(self):
        self.check_wrong({
            "": (1, 1), "places\nties": (1, 2), "places a b\nties b-a\nboard x": (2, 2), HEAD[:-1]: (3, 1),
            HEAD + "board": (3, 2), HEAD + "board ..x": (3, 2), HEAD + "board ....": (3, 2),
            HEAD + "board dl.\nfirst dark\ndeeds": (3, 2), HEAD + "board dl. x\nfirst": (3, 2),
            HEAD + "board ddd\nfirst dark\ndeeds": (3, 2), HEAD + "board ... x\nfirst": (3, 3),
            HEAD + "board ... \nfirst dark": (3, 3), HEAD + "board ...": (4, 1), HEAD + "board ...\n": (4, 1),
            HEAD + "board ...\nfirst": (4, 2), HEAD + "board ...\nfirst ": (4, 2),
            HEAD + "board ...\nfirst Dark": (4, 2), HEAD + "board ...\nfirst a": (4, 2),
            HEAD + "board ...\nfirst both x": (4, 2), HEAD + "board ...\nfirst dark light": (4, 3),
            HEAD + "board ...\nfirst dark ": (4, 3), HEAD + "board ...\nfirst dark": (5, 1),
            HEAD + "board ...\nhand dark\ndeeds": (4, 1), HEAD + "board ...\n first dark\ndeeds": (4, 1),
        })

    def test_first_wrong_deed(self):
        head = HEAD + "board ...\nfirst dark\n"
        self.check_wrong({
            head: (5, 1), head + "deed": (5, 1), head + "a b": (5, 1), head + "deeds ": (5, 2),
            head + "deeds  a": (5, 2), head + "deeds z": (5, 2), head + "deeds a a": (5, 3),
            head + "deeds a z a": (5, 3), head + "deeds a ": (5, 3), head + "deeds b a": (5, 3),
            head + "deeds - - -": (5, 4), head + "deeds - - a": (5, 4), head + "deeds - - ": (5, 4),
            head + "deeds a - -\n": (6, 1), head + "deeds\n": (6, 1), head + "deeds a\ndeeds": (6, 1),
            head + "deeds a x\n": (5, 3), head + "deeds -- a": (5, 2), head + "deeds a c b c a": (5, 6),
            HEAD + "board d..\nfirst light\ndeeds b a": (5, 3), HEAD + "board d..\nfirst light\ndeeds a": (5, 2),
        })

    def test_the_sixty_first_deed(self):
        game = play_on(Game(empty_board(grid_web(4, 5)), "dark"), 1)
        text = write_record(game)
        self.assertEqual(len(read_record(text)), 60)
        self.refused(BadText(5, 62), read_record, text + " -")
        self.refused(BadText(5, 62), read_record, text + " - -\n")

    def test_only_written_texts_are_read(self):
        text = HEAD + "board d..\nfirst dark\ndeeds c - b"
        for at in range(len(text) + 1):
            for new in ["", " ", "\n", "a", "c", "-", ".", "d", "l", "a ", " -"]:
                for rest in (at, at + 1):
                    changed = text[:at] + new + text[rest:]
                    self.assertIs(is_record(changed), self.is_written(changed))

    def is_written(self, text):
        try:
            return write_record(read_record(text)) == text
        except BadText:
            return False


class TestReplay(Case):
    def test_replay_makes_the_game(self):
        for game in games_to_compare():
            deeds = game.deeds
            again = replay(game.first_board, game.first_hand, deeds)
            self.assertEqual(again, game)
            self.assertEqual(again.board, game.board)
            self.assertEqual(deeds, game.deeds)
            self.assertIs(is_game(game.first_board, game.first_hand, deeds), True)
        self.assertEqual(replay(board=empty_board(THREE), first="dark", deeds=[]), Game(empty_board(THREE), "dark"))

    def test_the_first_refused_deed(self):
        told = [
            ("...", "dark", ["a", "a", "a"], 1, "occupied"), ("...", "dark", ["b", "a"], 1, "self-taking"),
            ("d..", "light", ["b", "a", "a"], 1, "self-taking"), ("...", "dark", ["-", "-", "-"], 2, "over"),
            ("...", "dark", ["-", "-", "a", "a"], 2, "over"), ("d..", "dark", ["a"], 0, "occupied"),
            ("...", "dark", ["a", "c", "b", "c", "a", "a"], 4, "comes-back"),
        ]
        for signs, first, deeds, at, reason in told:
            board = Board(THREE, signs)
            self.refused(BadDeed(at, reason), replay, board, first, deeds)
            self.assertIs(is_game(board=board, first=first, deeds=deeds), False)
            self.assertEqual(len(replay(board, first, deeds[:at])), at)

    def test_the_sixty_first_deed(self):
        game = play_on(Game(empty_board(grid_web(4, 5)), "dark"), 1)
        self.refused(BadDeed(60, "over"), replay, game.first_board, "dark", game.deeds + ["-"])
        self.assertIs(is_game(game.first_board, "dark", game.deeds + ["-"]), False)

    def test_each_row_of_three_deeds(self):
        board = Board(THREE, "d..")
        for one in "abc-":
            for two in "abc-":
                for three in "abc-":
                    self.check_row(board, [one, two, three])

    def check_row(self, board, deeds):
        plain = PlainGame(board, "light")
        for at, deed in enumerate(deeds):
            fault = plain.look(deed)[0]
            if fault is not None:
                self.refused(BadDeed(at, fault), replay, board, "light", deeds)
                return
            plain = plain.after(deed)
        self.assertEqual(replay(board, "light", deeds).stood, list(dict.fromkeys(plain.stood)))

    def test_the_order_of_the_errors(self):
        right, wrong = Board(THREE, "d.."), Board(THREE, "dl.")
        self.refused(NoHand("x"), replay, wrong, "x", ["z"])
        self.refused(NoPlace("z"), replay, wrong, "dark", ["a", "z", "y"])
        self.refused(NoPlace(""), replay, right, "dark", ["a", ""])
        self.refused(NotRight("a"), replay, wrong, "dark", ["a"])
        self.refused(NoPlace("z"), replay, right, "dark", ["a", "a", "z"])
        self.refused(BadDeed(0, "occupied"), replay, right, "dark", ["a", "-"])
        self.refused(NoHand("x"), is_game, wrong, "x", ["z"])
        self.refused(NotRight("a"), is_game, wrong, "dark", ["z"])
        self.refused(NotRight("a"), is_game, wrong, "dark", [])
        self.assertIs(is_game(right, "dark", ["z"]), False)
        self.assertIs(is_game(right, "dark", ["c", "z"]), False)
        self.assertIs(is_game(right, "dark", ["a"]), False)
        self.assertIs(is_game(right, "dark", []), True)

    def test_lists_stay(self):
        deeds = ["c", "-"]
        game = replay(Board(THREE, "..."), "dark", deeds)
        deeds.append("a")
        self.assertEqual(game.deeds, ["c", "-"])
        self.assertIsInstance(game, Game)


class TestTelling(Case):
    def test_boards_and_takings(self):
        for game in games_to_compare():
            deeds, plain = game.deeds, PlainGame(game.first_board, game.first_hand)
            for deed in deeds:
                plain = plain.after(deed)
            self.assertEqual([board.signs for board in boards_of(game)], plain.stood)
            self.assertEqual(takings_of(game), plain.taken)
            self.assertEqual([board.web for board in boards_of(game)], [game.board.web] * (len(deeds) + 1))
            self.assertEqual(game.deeds, deeds)

    def test_told_lists_are_new(self):
        game = replay(Board(path_web("abcd"), "dd.."), "light", ["c", "-"])
        takings_of(game)[0].append("x")
        boards_of(game).pop()
        self.assertEqual(takings_of(game=game), [["a", "b"], []])
        self.assertEqual([board.signs for board in boards_of(game=game)], ["dd..", "..l.", "..l."])

    def test_common_start(self):
        board = empty_board(path_web("abcd"))
        rows = [[], ["a"], ["b"], ["a", "d"], ["a", "-"], ["a", "d", "b"], ["a", "d", "-", "-"], ["a", "d", "-", "b"]]
        for one in rows:
            for two in rows:
                alike = 0
                while one[:alike + 1] == two[:alike + 1] and alike < min(len(one), len(two)):
                    alike += 1
                found = common_start(replay(board, "dark", one), replay(board, "dark", two))
                self.assertEqual(found, alike, (one, two))

    def test_common_start_of_different_beginnings(self):
        game = replay(empty_board(THREE), "dark", ["a", "-"])
        others = [replay(empty_board(THREE), "light", ["a", "-"]), replay(Board(THREE, "..d"), "dark", ["a", "-"]),
                  replay(empty_board(ring_web("abc")), "dark", ["a", "-"])]
        for other in others:
            self.assertEqual(common_start(game, other), 0)
            self.assertEqual(common_start(one=other, two=game), 0)
        self.assertEqual(common_start(game, game), 2)


if __name__ == "__main__":
    unittest.main()
