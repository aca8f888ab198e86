"""Points [52] to [56]: standing places, and what a laying changes of them."""

import itertools
import unittest

from helper import (Case, PlainRooms, boards_to_compare, drawn_boards, grid_web, other, path_web, plain_companies,
                    plain_lay, plain_signs, play_on, ring_web, tree_web)
from tworooms.boards import Board, empty_board
from tworooms.changes import (change_by, change_papers, spoiling_places, standing_along, standing_places,
                              strengthening_places)
from tworooms.counts import sure_places
from tworooms.errors import NoHand, NoPlace, NotRight, Occupied, SelfTaking
from tworooms.games import Game
from tworooms.laying import lay, let_places
from tworooms.records import replay
from tworooms.takings import decide
from tworooms.webs import Web

HANDS = ("dark", "light")
FOUR = path_web("abcd")
FIVE = path_web("abcde")
RIGHT = Board(FIVE, ".d.d.")
WRONG = Board(FIVE, "dl.d.")
SINGLE = Board(FOUR, ".d..")


def plain_standing_places(board, hand):
    """The standing places of a hand."""
    plain = PlainRooms(board, hand)
    return sorted(place for name in plain.standing() for place in plain.companies[name])


def boards_to_change():
    """Boards on which layings gain and lose standing places."""
    boards = list(boards_to_compare())[::3] + drawn_boards(tree_web(15), 15, "....ddddll")
    return boards + drawn_boards(ring_web("abcdefgh"), 40, "...ddd")


def boards_after(board, hand):
    """The board after each let laying of the hand."""
    after = {}
    for place in board.web.places:
        fault, signs, _, _ = plain_lay(board.web, plain_signs(board), hand[0], place)
        if fault is None:
            after[place] = Board(board.web, "".join(signs.values()))
    return after


class TestChanges(Case):
    def test_standing_places(self):
        for board in boards_to_compare():
            for hand in HANDS:
                self.assertEqual(standing_places(board, hand), plain_standing_places(board, hand))
        self.assertEqual(standing_places(board=Board(path_web("abcdef"), ".dd.d."), hand="dark"), ["b", "c", "e"])
        self.assertEqual(standing_places(SINGLE, "dark"), [])
        self.assertEqual(standing_places(SINGLE, "light"), [])

    def test_places_of_several_companies_are_ascending(self):
        web = Web("abcdefghi", [("a", "d"), ("b", "c"), ("a", "e"), ("c", "f"), ("d", "g"), ("b", "h"), ("a", "h"),
                                ("c", "i")])
        self.assertEqual(standing_places(Board(web, "dddd....."), "dark"), ["a", "b", "c", "d"])

    def test_all_changes_are_as_the_points_say(self):
        seen = {"own gained": 0, "own lost": 0, "other gained": 0, "laid gained": 0}
        for board in boards_to_change():
            for hand in HANDS:
                told = {place: self.check_change(board, hand, place, after)
                        for place, after in boards_after(board, hand).items()}
                self.assertEqual(strengthening_places(board, hand), [place for place in told if told[place][hand][0]])
                self.assertEqual(spoiling_places(board, hand), [place for place in told if told[place][hand][1]])
                seen["own gained"] += len(strengthening_places(board, hand))
                seen["own lost"] += len(spoiling_places(board, hand))
                seen["other gained"] += len([place for place in told if told[place][other(hand)][0]])
                seen["laid gained"] += len([place for place in told if place in told[place][hand][0]])
        self.assertGreater(min(seen.values()), 5, seen)

    def check_change(self, board, hand, place, after):
        told = change_by(board, hand, place)
        for side in HANDS:
            old, new = plain_standing_places(board, side), plain_standing_places(after, side)
            lost = [name for name in old if name not in new]
            self.assertEqual(told[side], ([name for name in new if name not in old], lost))
            self.assertTrue(not lost or (side == hand and place in sure_places(board, hand) and not told[side][0]))
            for name in lost:
                self.assertEqual(after.sign(name), side[0])
        self.assertEqual(sorted(told), ["dark", "light"])
        self.check_papers(board, hand, place, after, told)
        return told

    def check_papers(self, board, hand, place, after, told):
        changed = {name for side in HANDS for places in told[side] for name in places}
        companies = [company for sign in "dl" for company in plain_companies(after.web, plain_signs(after), sign)]
        names = sorted(company[0] for company in companies if changed & set(company))
        papers = change_papers(board, hand, place)
        self.assertEqual(papers, [(name, *decide(after, name)) for name in names])

    def test_the_laying_of_the_other_hand(self):
        self.assertEqual(change_by(board=SINGLE, hand="light", place="d"),
                         {"dark": (["b"], []), "light": ([], [])})
        self.assertEqual(change_papers(board=SINGLE, hand="light", place="d"), [("b", "stands", [("b", "a", "c")])])
        self.assertEqual(spoiling_places(SINGLE, "light"), [])
        self.assertEqual(strengthening_places(SINGLE, "light"), [])

    def test_the_laying_of_the_own_hand(self):
        self.assertEqual(change_by(SINGLE, "dark", "c"), {"dark": (["b", "c"], []), "light": ([], [])})
        self.assertEqual(change_papers(SINGLE, "dark", "c"), [("b", "stands", [("b", "a", "d")])])
        self.assertEqual(strengthening_places(board=SINGLE, hand="dark"), ["c"])
        self.assertEqual(change_by(RIGHT, "dark", "a"), {"dark": ([], ["b", "d"]), "light": ([], [])})
        self.assertEqual(change_papers(RIGHT, "dark", "a"),
                         [("a", *decide(Board(FIVE, "dd.d."), "a")), ("d", *decide(Board(FIVE, "dd.d."), "d"))])
        self.assertEqual(spoiling_places(board=RIGHT, hand="dark"), ["a", "e"])

    def test_a_laying_that_changes_nothing(self):
        self.assertEqual(change_by(SINGLE, "dark", "a"), {"dark": ([], []), "light": ([], [])})
        self.assertEqual(change_papers(SINGLE, "dark", "a"), [])
        self.assertEqual(spoiling_places(empty_board(FOUR), "dark"), [])

    def test_gained_by_taking(self):
        # Dark takes the light stone on e and stands then; the stones d and f are the gained places.
        board = Board(path_web("abcdefg"), ".d.dl..")
        after, taken = lay(board, "dark", "f")
        self.assertEqual(taken, ["e"])
        self.assertEqual(change_by(board, "dark", "f")["dark"],
                         (plain_standing_places(after, "dark"), []))
        self.assertIn("f", change_by(board, "dark", "f")["dark"][0])

    def test_standing_along_a_game(self):
        games = [play_on(Game(empty_board(web), "light"), step)
                 for web, step in ((grid_web(4, 5), 1), (path_web("abcdef"), 4), (ring_web("abcde"), 6))]
        games += [play_on(Game(board, "dark"), 3) for board in drawn_boards(tree_web(12), 3)]
        for game in games:
            deeds = game.deeds
            for hand in HANDS:
                told = standing_along(game, hand)
                boards = [replay(game.first_board, game.first_hand, deeds[:many]).board
                          for many in range(len(deeds) + 1)]
                self.assertEqual(told, [plain_standing_places(board, hand) for board in boards])
            self.assertEqual(game.deeds, deeds)
        self.assertEqual(standing_along(game=Game(RIGHT, "light"), hand="dark"), [["b", "d"]])
        self.assertEqual(standing_along(replay(SINGLE, "light", ["d", "a"]), "dark"), [[], ["b"], []])

    def test_the_order_of_the_errors(self):
        for call in (standing_places, spoiling_places, strengthening_places):
            self.refused(NoHand("x"), call, WRONG, "x")
            self.refused(NoHand(""), call, RIGHT, "")
            self.refused(NotRight("a"), call, WRONG, "light")
        for call in (change_by, change_papers):
            for board in (RIGHT, WRONG):
                self.refused(NoHand("x"), call, board, "x", "z")
                self.refused(NoHand("Dark"), call, board, "Dark", "b")
                for place in ("z", "", "-"):
                    self.refused(NoPlace(place), call, board, "dark", place)
            self.refused(NotRight("a"), call, WRONG, "dark", "d")
            self.refused(NotRight("a"), call, WRONG, "dark", "c")
            self.refused(Occupied("b"), call, RIGHT, "dark", "b")
            self.refused(Occupied("b"), call, RIGHT, "light", "b")
            self.refused(SelfTaking("a"), call, RIGHT, "light", "a")
            self.refused(SelfTaking("c"), call, Board(path_web("abc"), "dd."), "dark", "c")
        self.refused(NoHand("x"), standing_along, Game(RIGHT, "dark"), "x")

    def test_told_lists_are_new(self):
        change_by(SINGLE, "dark", "c")["dark"][0].append("x")
        change_papers(SINGLE, "dark", "c").append("x")
        standing_along(Game(RIGHT, "dark"), "dark")[0].append("x")
        standing_places(RIGHT, "dark").append("x")
        spoiling_places(RIGHT, "dark").append("x")
        strengthening_places(SINGLE, "dark").append("x")
        self.assertEqual(change_by(SINGLE, "dark", "c")["dark"], (["b", "c"], []))
        self.assertEqual(change_papers(SINGLE, "dark", "c"), [("b", "stands", [("b", "a", "d")])])
        self.assertEqual(standing_along(Game(RIGHT, "dark"), "dark"), [["b", "d"]])
        self.assertEqual((standing_places(RIGHT, "dark"), spoiling_places(RIGHT, "dark")), (["b", "d"], ["a", "e"]))
        self.assertEqual((strengthening_places(SINGLE, "dark"), SINGLE.signs), (["c"], ".d.."))

    def test_the_mirrored_board(self):
        for board in itertools.islice(boards_to_compare(), 0, None, 5):
            for hand in HANDS:
                self.assertEqual(standing_places(board, hand), standing_places(-board, other(hand)))
                self.assertEqual(spoiling_places(board, hand), spoiling_places(-board, other(hand)))
                self.assertEqual(strengthening_places(board, hand), strengthening_places(-board, other(hand)))
                for place in let_places(board, hand)[:2]:
                    one, two = change_by(board, hand, place), change_by(-board, other(hand), place)
                    self.assertEqual((one["dark"], one["light"]), (two["light"], two["dark"]))
                    self.assertEqual(change_papers(board, hand, place), change_papers(-board, other(hand), place))


if __name__ == "__main__":
    unittest.main()
