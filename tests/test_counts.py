"""Points [57] to [63]: reach, territory and score; held rooms, sure places and sure scores; sure by a paper."""

import itertools
import unittest

from helper import (Case, PlainRooms, TWO_COMBS, all_boards, boards_to_compare, drawn_boards, grid_web, other, path_web,
                    plain_border, plain_parts, plain_signs, plain_sure, play_on, ring_web, subsets, tree_web)
from tworooms.boards import Board, empty_board
from tworooms.companies import is_right
from tworooms.counts import (free_parts, held_rooms, is_sure, reach_of, report, score, sure_places, sure_score,
                             sure_winner, territory)
from tworooms.errors import NoHand, NoPlace, NotRight
from tworooms.games import Game
from tworooms.laying import lay, let_places
from tworooms.papers import stand_paper
from tworooms.records import replay
from tworooms.webs import Web

HANDS = ("dark", "light")
FIVE = path_web("abcde")
RIGHT = Board(FIVE, ".d.d.")
WRONG = Board(FIVE, "dl.d.")
# Dark stands on a, c, e, f and h; the light stone on j is in the room i-j-j1 of dark, which h alone borders.
COMBS = Board(TWO_COMBS, "d..d..d.d..d..l.")


def plain_reach(board, place):
    """The reach of a place."""
    signs = plain_signs(board)
    if signs[place] != ".":
        return [hand for hand in HANDS if hand[0] == signs[place]]
    free = [name for name in board.web.places if signs[name] == "."]
    part = next(part for part in plain_parts(board.web, free) if place in part)
    around = {signs[name] for name in plain_border(board.web, part)}
    return [hand for hand in HANDS if hand[0] in around]


class TestScore(Case):
    def boards(self):
        """Boards that are right and boards that are not."""
        webs = [Web("abc", []), path_web("abcd"), ring_web("abcde"), Web("abcde", [("a", "b"), ("b", "c"), ("b", "d")])]
        return itertools.chain(boards_to_compare(), *[all_boards(web) for web in webs])

    def test_all_reaches_and_scores_are_as_the_points_say(self):
        wrong = 0
        for board in self.boards():
            wrong += not is_right(board)
            reach = {place: plain_reach(board, place) for place in board.web.places}
            self.assertEqual({place: reach_of(board, place) for place in board.web.places}, reach)
            free = [place for place in board.web.places if board.sign(place) == "."]
            self.assertEqual(free_parts(board), plain_parts(board.web, free))
            lists = {"dark": ["dark"], "light": ["light"], "both": ["dark", "light"], "none": []}
            told = {word: [place for place in free if reach[place] == hands] for word, hands in lists.items()}
            self.assertEqual(territory(board), told)
            counts = tuple(board.signs.count(hand[0]) + len(told[hand]) for hand in HANDS)
            self.assertEqual(score(board), counts + (len(told["both"]) + len(told["none"]),))
            self.assertEqual(sum(score(board)), len(board.web))
        self.assertGreater(wrong, 100)

    def test_the_document_example(self):
        self.assertEqual(score(board=Board(FIVE, ".d..l")), (2, 1, 2))
        self.assertEqual(territory(board=Board(FIVE, ".d..l")),
                         {"dark": ["a"], "light": [], "both": ["c", "d"], "none": []})
        self.assertEqual(free_parts(board=Board(FIVE, ".d..l")), [["a"], ["c", "d"]])
        self.assertEqual(reach_of(board=Board(FIVE, ".d..l"), place="c"), ["dark", "light"])

    def test_a_lone_free_place_and_an_empty_board(self):
        self.assertEqual(reach_of(Board(Web("ab", []), ".d"), "a"), [])
        self.assertEqual(score(Board(Web("ab", []), ".d")), (1, 0, 1))
        self.assertEqual(territory(empty_board(FIVE))["none"], list("abcde"))
        self.assertEqual(free_parts(Board(Web("ab", []), "dl")), [])

    def test_a_board_that_is_not_right(self):
        self.assertEqual(score(WRONG), (3, 1, 1))
        self.assertEqual(reach_of(WRONG, "c"), ["dark", "light"])
        self.assertEqual(score(Board(path_web("ab"), "dl")), (1, 1, 0))

    def test_territory_of_several_parts_is_ascending(self):
        web = Web("abcdef", [("a", "f"), ("b", "e"), ("c", "f"), ("d", "e")])
        self.assertEqual(territory(Board(web, "....dd"))["dark"], ["a", "b", "c", "d"])
        web = Web("abcd", [("a", "c"), ("a", "d"), ("b", "d")])
        self.assertEqual(territory(Board(web, "...d"))["dark"], ["a", "b", "c"])

    def test_reach_needs_a_place(self):
        for place in ("z", "", "-"):
            self.refused(NoPlace(place), reach_of, RIGHT, place)
            self.refused(NoPlace(place), reach_of, WRONG, place)

    def test_the_mirrored_board(self):
        for board in self.boards():
            dark, light, rest = score(board)
            self.assertEqual(score(-board), (light, dark, rest))
            one, two = territory(board), territory(-board)
            self.assertEqual((one["dark"], one["light"], one["both"]), (two["light"], two["dark"], two["both"]))
            self.assertEqual(free_parts(board), free_parts(-board))
            for place in board.web.places[:2]:
                self.assertEqual(reach_of(-board, place),
                                 [hand for hand in HANDS if other(hand) in reach_of(board, place)])


class TestSure(Case):
    def test_the_document_example(self):
        self.assertEqual(sure_score(board=Board(FIVE, ".d.d.")), (5, 0, 0))

    def test_all_sure_places_are_as_the_points_say(self):
        winners = {"dark": 0, "light": 0, None: 0}
        boards = itertools.chain(boards_to_compare(), drawn_boards(tree_web(15), 20, "....ddlll"))
        for board in boards:
            counts = []
            for hand in HANDS:
                plain = PlainRooms(board, hand)
                places, held = plain_sure(plain, plain.standing())
                self.assertEqual(sure_places(board, hand), places)
                self.assertEqual(held_rooms(board, hand), held)
                counts.append(len(places))
            dark, light = counts
            self.assertEqual(sure_score(board), (dark, light, len(board.web) - dark - light))
            self.assertFalse(set(sure_places(board, "dark")) & set(sure_places(board, "light")))
            winner = "dark" if 2 * dark > len(board.web) else "light" if 2 * light > len(board.web) else None
            self.assertEqual(sure_winner(board), winner)
            winners[winner] += 1
        self.assertGreater(min(winners.values()), 3, winners)

    def test_held_rooms(self):
        self.assertEqual(held_rooms(board=COMBS, hand="dark"), ["a1", "b", "c1", "d", "e1", "f1", "g", "h1"])
        self.assertEqual(sure_places(board=COMBS, hand="dark"),
                         ["a", "a1", "b", "c", "c1", "d", "e", "e1", "f", "f1", "g", "h", "h1"])
        self.assertEqual(sure_places(COMBS, "light"), [])
        # The room d-e-f is own to nobody, since e does not touch c.
        board = Board(path_web("abcdef"), ".dd.ll")
        self.assertEqual((held_rooms(board, "dark"), sure_score(board)), (["a", "d"], (6, 0, 0)))
        board = Board(path_web("abcdefg"), ".d.d...")
        self.assertEqual((held_rooms(board, "dark"), sure_places(board, "dark")), ([], []))
        self.assertEqual(held_rooms(empty_board(FIVE), "dark"), [])

    def test_a_room_that_is_own_to_none_of_its_standing_companies(self):
        # The room e-f has both standing companies at its border, and no place of it touches both.
        web = Web("abcdefgh", [("a", "b"), ("b", "c"), ("b", "e"), ("e", "f"), ("f", "g"), ("g", "h"), ("d", "g")])
        board = Board(web, ".d....d.")
        self.assertEqual(held_rooms(board, "dark"), ["a", "c", "d", "h"])
        self.assertEqual(sure_score(board), (6, 0, 2))

    def test_a_room_that_a_falling_company_borders(self):
        web = Web("abcdefg", [("a", "b"), ("b", "c"), ("b", "d"), ("d", "e"), ("e", "f"), ("f", "g")])
        board = Board(web, ".d..d..")
        self.assertEqual((held_rooms(board, "dark"), sure_places(board, "dark")), (["a", "c"], ["a", "b", "c"]))

    def test_the_sure_winner_has_more_than_half(self):
        half = Board(Web("abcdef", [("a", "b"), ("b", "c"), ("d", "e"), ("e", "f")]), ".d....")
        self.assertEqual((sure_score(half), sure_winner(board=half)), ((3, 0, 3), None))
        more = Board(Web("abcde", [("a", "b"), ("b", "c"), ("d", "e")]), ".d...")
        self.assertEqual((sure_score(more), sure_winner(more)), ((3, 0, 2), "dark"))
        self.assertEqual(sure_winner(-more), "light")
        self.assertIsNone(sure_winner(empty_board(FIVE)))

    def test_layings_keep_sure_places(self):
        for board in itertools.chain(list(boards_to_compare())[::4], drawn_boards(tree_web(15), 10)):
            for hand in HANDS:
                sure = set(sure_places(board, hand))
                for place in let_places(board, other(hand)) if sure else []:
                    self.assertLessEqual(sure, set(sure_places(lay(board, other(hand), place)[0], hand)))
                for place in let_places(board, hand) if sure else []:
                    if place not in sure:
                        self.assertLessEqual(sure, set(sure_places(lay(board, hand, place)[0], hand)))

    def test_the_order_of_the_errors(self):
        for call in (held_rooms, sure_places):
            self.refused(NoHand("x"), call, WRONG, "x")
            self.refused(NoHand(""), call, RIGHT, "")
            self.refused(NotRight("a"), call, WRONG, "light")
        for call in (sure_score, sure_winner):
            self.refused(NotRight("a"), call, WRONG)
        for board in (RIGHT, WRONG):
            self.refused(NoHand("x"), is_sure, board, "x", "z", [])
            for place in ("z", "", "-"):
                self.refused(NoPlace(place), is_sure, board, "dark", place, [("z", "", "")])
        self.refused(NotRight("a"), is_sure, WRONG, "dark", "a", [])

    def test_the_mirrored_board(self):
        for board in boards_to_compare():
            dark, light, rest = sure_score(board)
            self.assertEqual(sure_score(-board), (light, dark, rest))
            for hand in HANDS:
                self.assertEqual(held_rooms(board, hand), held_rooms(-board, other(hand)))
                self.assertEqual(sure_places(board, hand), sure_places(-board, other(hand)))


class TestSureByPaper(Case):
    def test_all_papers_of_the_boards(self):
        told = {True: 0, False: 0}
        for board in boards_to_compare():
            for hand in HANDS:
                plain, rows = PlainRooms(board, hand), stand_paper(board, hand)
                for family in subsets(rows):
                    names = [row[0] for row in family]
                    right = all(set(plain.border[room]) <= set(names) for row in family for room in row[1:])
                    places = plain_sure(plain, names)[0] if right else []
                    for place in board.web.places:
                        told[place in places] += 1
                        self.assertIs(is_sure(board, hand, place, list(family)), place in places)
        self.assertGreater(min(told.values()), 500)

    def test_given_papers(self):
        paper = [("b", "a", "c"), ("d", "c", "e")]
        for place in "abcde":
            self.assertIs(is_sure(board=RIGHT, hand="dark", place=place, rows=paper), True)
            self.assertIs(is_sure(RIGHT, "dark", place, paper[:1]), False)
            self.assertIs(is_sure(RIGHT, "dark", place, paper + paper[:1]), False)
            self.assertIs(is_sure(RIGHT, "dark", place, []), False)
            self.assertIs(is_sure(RIGHT, "light", place, paper), False)
            self.assertIs(is_sure(RIGHT, "dark", place, [("z", "", "-")]), False)
        self.assertEqual(paper, [("b", "a", "c"), ("d", "c", "e")])

    def test_rooms_that_the_paper_does_not_name_count(self):
        board = Board(Web("abcd", [("a", "b"), ("b", "c"), ("b", "d")]), ".d..")
        self.assertIs(is_sure(board, "dark", "d", [("b", "a", "c")]), True)
        self.assertIs(is_sure(COMBS, "dark", "d", [("c", "b", "c1"), ("a", "a1", "b")]), False)
        self.assertIs(is_sure(COMBS, "dark", "e", [("c", "b", "c1"), ("a", "a1", "b")]), False)
        self.assertIs(is_sure(COMBS, "dark", "c1", [("c", "b", "c1"), ("a", "a1", "b")]), True)


class TestReport(Case):
    def test_reports_of_games(self):
        games = [play_on(Game(empty_board(web), first), step) for first in HANDS
                 for web, step in ((grid_web(4, 5), 1), (path_web("abcdef"), 4), (ring_web("abcde"), 6))]
        taken = 0
        for game in games:
            again, rows = Game(game.first_board, game.first_hand), []
            for deed in game.deeds:
                hand = again.turn
                many = len(again.play(deed))
                taken += many
                rows.append((hand, deed, many, sure_score(again.board)))
            told = report(game=game)
            self.assertEqual(told, rows)
            self.assertEqual({(len(row), row.__class__) for row in told}, {(4, tuple)})
        self.assertGreater(taken, 5)

    def test_a_short_report(self):
        game = replay(Board(FIVE, "d...."), "light", ["b", "-", "d"])
        self.assertEqual(report(game), [("light", "b", 1, (0, 0, 5)), ("dark", "-", 0, (0, 0, 5)),
                                        ("light", "d", 0, (0, 5, 0))])
        self.assertEqual(report(Game(RIGHT, "dark")), [])
        self.assertEqual(report(replay(Board(path_web("abc"), "d.d"), "light", ["b"])), [("light", "b", 2, (0, 3, 0))])

    def test_told_lists_are_new(self):
        report(replay(RIGHT, "light", ["-"])).pop()
        sure_places(RIGHT, "dark").pop()
        held_rooms(RIGHT, "dark").pop()
        territory(RIGHT)["dark"].pop()
        free_parts(RIGHT)[0].pop()
        reach_of(RIGHT, "a").pop()
        self.assertEqual(report(replay(RIGHT, "light", ["-"])), [("light", "-", 0, (5, 0, 0))])
        self.assertEqual((sure_places(RIGHT, "dark"), held_rooms(RIGHT, "dark")), (list("abcde"), ["a", "c", "e"]))
        self.assertEqual(territory(RIGHT)["dark"], ["a", "c", "e"])
        self.assertEqual((free_parts(RIGHT), reach_of(RIGHT, "a")), ([["a"], ["c"], ["e"]], ["dark"]))


if __name__ == "__main__":
    unittest.main()
