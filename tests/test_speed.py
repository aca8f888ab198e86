"""No answer takes more than some seconds: the greatest calls, each with far more time than it needs."""

import itertools
import time
import unittest

from helper import TWO_COMBS, drawn_boards, grid_web, path_web
from tworooms.boards import Board, empty_board
from tworooms.book import Book, read_book, write_book
from tworooms.games import Game
from tworooms.joining import mirrored_game
from tworooms.likeness import (first_likeness, is_likeness, least_form, leading_likeness, likenesses, orbit_count,
                               orbit_of)
from tworooms.making import least_making, least_unmaking, right_boards, smallest_standing, stand_tally
from tworooms.player import choose, choose_sure, play_out
from tworooms.raceboards import race_game, race_numbers, race_search
from tworooms.races import race_line, race_table, race_value
from tworooms.scripts import run_script
from tworooms.search import attack, attack_all, chase, passing_search
from tworooms.webs import Web

MOST_SECONDS = 5
GRID = grid_web(4, 5)
LETTERS = "abcdefghijklmnopqrst"


def wide_board():
    """Many lone dark stones with many free places between them and as many ties as there may be."""
    pairs = [(one, two) for one, two in itertools.combinations(LETTERS, 2) if (one < "i") != (two < "i")]
    return Board(Web(list(LETTERS), pairs[:60]), "dddd" + "." * 16)


class TestSpeed(unittest.TestCase):
    def timed(self, call, *given, **named):
        """The answer of the call, which must come soon."""
        begin = time.process_time()
        told = call(*given, **named)
        self.assertLess(time.process_time() - begin, MOST_SECONDS, call.__name__)
        return told

    def test_searches(self):
        boards = [wide_board(), Board(GRID, "d.d." * 5), Board(GRID, "." * 19 + "d"),
                  Board(TWO_COMBS, "d..d..d.d..d..l.")]
        for board in boards:
            place = board.bearing("d")[-1]
            for first in ("dark", "light"):
                self.timed(attack, board, place, first=first, depth=12, budget=400)
            self.timed(chase, board, place, depth=12, budget=400)
            self.timed(passing_search, board, place, depth=12, budget=400)
            told = self.timed(attack_all, board, "dark", depth=12, budget=400)
            self.assertLessEqual(len(told), len(board.bearing("d")))

    def test_races(self):
        self.assertEqual(len(self.timed(race_table, 4)), 2 * (125 - 5 - 5 + 1))
        self.timed(race_value, 10 ** 6, 10 ** 6, 10 ** 6)
        self.timed(race_line, 30, 30, 30)
        game, _ = self.timed(race_game, 4, 4, 4)
        self.assertEqual(self.timed(race_numbers, game.first_board, "d", "l"), (4, 4, 4))
        for race in itertools.product(range(3), repeat=3):
            if race[0] + race[2] and race[1] + race[2]:
                self.timed(race_search, *race)

    def test_making(self):
        board = Board(path_web("abcdefghijklmnopq"), "." * 16 + "d")
        self.assertIsNone(self.timed(least_making, board, "q"))
        self.assertEqual(self.timed(least_unmaking, board, "q"), [])
        for ties in ([], list(itertools.combinations("abcde", 2)), list(zip("abcd", "bcde"))):
            web = Web(list("abcde"), ties)
            self.timed(right_boards, web)
            self.timed(stand_tally, web, "dark")
            self.timed(smallest_standing, web, "light")

    def test_likenesses(self):
        five, six = Web(list("abcde"), []), Web(list("abcdef"), [])
        self.assertEqual(len(self.timed(likenesses, five)), 120)
        self.assertEqual(self.timed(first_likeness, six, six), {place: place for place in "abcdef"})
        self.assertEqual(len(self.timed(orbit_of, Board(five, "ddl.."))), 30)
        self.timed(least_form, Board(five, "ddl.."))
        self.assertIsNone(self.timed(leading_likeness, Board(five, "ddl.."), Board(five, "dll..")))
        self.assertEqual(self.timed(orbit_count, Web(list("abcd"), [])), 1)
        self.assertTrue(self.timed(is_likeness, GRID, GRID, {place: place for place in GRID.places}))

    def test_players(self):
        for web in (GRID, TWO_COMBS, wide_board().web):
            game = Game(empty_board(web), "dark")
            self.timed(choose, game)
            self.timed(choose_sure, game)
            for style in ("plain", "sure"):
                told = self.timed(play_out, game, most=60, style=style)
                self.timed(mirrored_game, told)

    def test_books_and_scripts(self):
        web = " ".join(["web w", *TWO_COMBS.places, "/", *["-".join(tie) for tie in TWO_COMBS.ties]])
        board = drawn_boards(TWO_COMBS, 1, "...ddddl")[0]
        place = board.bearing("d")[0]
        lines = [web, "board p w " + board.signs, "board e w " + "." * 16, "game g e dark"]
        papers = lines + [f"decide n{k} p {place}" for k in range(56)]
        answers, book = self.timed(run_script, "\n".join(papers))
        self.assertEqual((len(book), answers[:4]), (60, ["ok"] * 4))
        self.assertEqual(self.timed(read_book, self.timed(write_book, book)), book)
        self.assertEqual(self.timed(Book.twin, book), book)
        answers, _ = self.timed(run_script, "\n".join(lines + ["auto g 60", "undo"] * 28))
        self.assertEqual(len(answers), 60)


if __name__ == "__main__":
    unittest.main()
