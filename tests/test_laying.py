"""Points [19] to [21]: laying on right boards, what is taken, what is refused, and rows of layings."""

import itertools
import unittest

from helper import Case, boards_to_compare, path_web, plain_lay, plain_parts, plain_signs
from tworooms.boards import Board
from tworooms.companies import is_right
from tworooms.errors import BadDeed, NoHand, NoPlace, NotRight, Occupied, SelfTaking
from tworooms.games import Game
from tworooms.laying import lay, lay_fault, lay_row, let_places, taken_by
from tworooms.webs import Web

PATH = path_web("abc")
STAR = Web("abcde", [("a", "e"), ("b", "e"), ("c", "e"), ("d", "e")])
NO_HANDS = ["", "Dark", "d", "both", "a"]
NO_PLACES = ["z", "", "-", "A", "ab"]


class TestLaying(Case):
    def test_all_layings_are_as_the_point_says(self):
        for board in boards_to_compare():
            web, signs, before = board.web, plain_signs(board), board.signs
            for hand in ("dark", "light"):
                let = []
                for place in web.places:
                    fault, after, names, places = plain_lay(web, signs, hand[0], place)
                    self.assertEqual(lay_fault(board, hand, place), fault)
                    if fault == "occupied":
                        self.refused(Occupied(place), lay, board, hand, place)
                        self.refused(Occupied(place), taken_by, board, hand, place)
                        continue
                    self.assertEqual(taken_by(board, hand, place), names)
                    if fault == "self-taking":
                        self.assertEqual(names, [])
                        self.refused(SelfTaking(place), lay, board, hand, place)
                        continue
                    let.append(place)
                    self.check_laid(lay(board, hand, place), web, "".join(after.values()), places)
                self.assertEqual(let_places(board, hand), let)
            self.assertEqual(board.signs, before)

    def check_laid(self, laid, web, signs, places):
        self.assertIsInstance(laid, tuple)
        after, taken = laid
        self.assertEqual((after, taken), (Board(web, signs), places))
        self.assertIs(is_right(after), True)

    def test_point_21(self):
        for board in boards_to_compare():
            for hand, other in (("dark", "light"), ("light", "dark")):
                outside = [place for place in board.web.places if board.sign(place) != other[0]]
                for room in plain_parts(board.web, outside):
                    free = [place for place in room if board.sign(place) == "."]
                    for place in free:
                        fault = lay_fault(board, hand, place)
                        if len(free) > 1 or taken_by(board, hand, place):
                            self.assertIsNone(fault)
                        else:
                            self.assertEqual(fault, "self-taking")

    def test_the_document_examples(self):
        board, taken = lay(Board(PATH, "d.d"), "light", "b")
        self.assertEqual((board.signs, taken), (".l.", ["a", "c"]))
        self.refused(SelfTaking("a"), lay, Board(PATH, ".d."), "light", "a")

    def test_takings_of_none_one_and_several(self):
        board = Board(STAR, "dld..")
        self.assertEqual(taken_by(board, "light", "d"), [])
        self.assertEqual(taken_by(board, "light", "e"), ["a", "c"])
        self.assertEqual(taken_by(board, "dark", "e"), ["b"])
        self.assertEqual(lay(board, "light", "e")[0].signs, ".l..l")
        self.assertEqual(lay(board, "dark", "e")[1], ["b"])
        self.assertEqual(lay(board, "dark", "e")[0].signs, "d.d.d")
        self.assertEqual(lay(Board(path_web("abcd"), "dd.."), "light", "c"), (Board(path_web("abcd"), "..l."),
                                                                             ["a", "b"]))

    def test_taken_places_of_several_companies_are_ascending(self):
        web = Web("abcd", [("a", "c"), ("a", "d"), ("b", "d")])
        self.assertEqual(taken_by(Board(web, "ddd."), "light", "d"), ["a", "b"])
        self.assertEqual(lay(Board(web, "ddd."), "light", "d"), (Board(web, "...l"), ["a", "b", "c"]))
        self.assertEqual(Game(Board(web, "lll."), "dark").play("d"), ["a", "b", "c"])

    def test_taking_comes_first(self):
        self.refused(SelfTaking("a"), lay, Board(path_web("abcde"), ".dd.."), "light", "a")
        self.assertIsNone(lay_fault(Board(path_web("abcde"), ".ddl."), "light", "a"))
        self.assertEqual(lay(Board(path_web("abcde"), ".ddl."), "light", "a")[1], ["b", "c"])
        self.assertEqual(lay(Board(PATH, "l.d"), "dark", "b")[1], ["a"])

    def test_own_company_counts_as_a_whole(self):
        self.assertIsNone(lay_fault(Board(path_web("abcde"), "d.d.."), "dark", "b"))
        self.refused(SelfTaking("c"), lay, Board(path_web("abc"), "dd."), "dark", "c")
        self.refused(SelfTaking("b"), lay, Board(path_web("abcd"), "d.dd"), "dark", "b")
        self.refused(SelfTaking("a"), lay, Board(Web(["a"], []), "."), "light", "a")

    def test_taken_by_tells_also_for_self_taking_layings(self):
        self.assertEqual(taken_by(Board(PATH, ".d."), "light", "a"), [])

    def test_occupied_by_either_hand(self):
        board = Board(path_web("abcd"), "d..l")
        for hand, place in itertools.product(("dark", "light"), "ad"):
            self.assertEqual(lay_fault(board, hand, place), "occupied")
            self.refused(Occupied(place), lay, board, hand, place)
            self.refused(Occupied(place), taken_by, board, hand, place)

    def test_by_name(self):
        board = Board(PATH, "d.d")
        self.assertEqual(taken_by(board=board, hand="light", place="b"), ["a", "c"])
        self.assertEqual(lay(board=board, hand="light", place="b")[1], ["a", "c"])
        self.assertIsNone(lay_fault(board=board, hand="light", place="b"))
        self.assertEqual(let_places(board=board, hand="dark"), [])
        self.assertEqual(lay_row(board=board, hand="light", row=["b"]).signs, ".l.")

    def test_the_order_of_the_errors(self):
        right, wrong = Board(PATH, "d.d"), Board(PATH, "dl.")
        for call in (taken_by, lay, lay_fault):
            for board in (right, wrong):
                for hand in NO_HANDS:
                    self.refused(NoHand(hand), call, board, hand, "z")
                    self.refused(NoHand(hand), call, board, hand, "a")
                for place in NO_PLACES:
                    self.refused(NoPlace(place), call, board, "dark", place)
            self.refused(NotRight("a"), call, wrong, "dark", "a")
            self.refused(NotRight("a"), call, wrong, "dark", "c")
        self.refused(NoHand("x"), let_places, wrong, "x")
        self.refused(NotRight("a"), let_places, wrong, "light")

    def test_not_right_tells_the_least_name(self):
        board = Board(path_web("abcde"), ".ldld")
        self.refused(NotRight("c"), lay, board, "dark", "a")
        self.refused(NotRight("c"), lay_row, board, "dark", [])


class TestRows(Case):
    def test_rows_are_layings_one_after_another(self):
        for board in itertools.islice(boards_to_compare(), 0, None, 3):
            for row in itertools.product(board.web.places, repeat=2):
                signs, refused = plain_signs(board), None
                for at, place in enumerate(row):
                    fault, signs, _, _ = plain_lay(board.web, signs, "l", place)
                    if fault is not None:
                        refused = (at, fault)
                        break
                if refused is None:
                    after = lay_row(board, "light", list(row))
                    self.assertEqual(after, Board(board.web, "".join(signs.values())))
                else:
                    self.refused(BadDeed(*refused), lay_row, board, "light", list(row))

    def test_the_empty_row(self):
        board = Board(PATH, "d.l")
        self.assertEqual(lay_row(board, "dark", []), board)

    def test_a_long_row(self):
        web = path_web("abcde")
        row = ["a", "e", "b", "d"]
        self.assertEqual(lay_row(Board(web, "....."), "dark", row).signs, "dd.dd")
        self.assertEqual(row, ["a", "e", "b", "d"])
        self.assertEqual(lay_row(Board(web, "....."), "dark", row).signs, "dd.dd")
        self.refused(BadDeed(4, "self-taking"), lay_row, Board(web, "....."), "dark", row + ["c", "a"])
        self.refused(BadDeed(4, "occupied"), lay_row, Board(web, "....."), "dark", row + ["a", "c"])

    def test_a_row_may_lay_where_stones_were_taken(self):
        web = path_web("abcd")
        self.assertEqual(lay_row(Board(web, "d..."), "light", ["b", "a"]).signs, "ll..")
        self.refused(BadDeed(0, "occupied"), lay_row, Board(web, "d..."), "light", ["a", "b"])

    def test_the_order_of_the_errors(self):
        right, wrong = Board(PATH, "d.."), Board(PATH, "dl.")
        self.refused(NoHand("x"), lay_row, wrong, "x", ["z"])
        self.refused(NoPlace("y"), lay_row, wrong, "dark", ["a", "y", "z"])
        self.refused(NotRight("a"), lay_row, wrong, "dark", ["a"])
        self.refused(NotRight("a"), lay_row, wrong, "dark", [])
        self.refused(NoPlace("-"), lay_row, right, "dark", ["a", "-"])
        self.refused(BadDeed(0, "occupied"), lay_row, right, "dark", ["a", "b"])
        self.assertEqual(right.signs, "d..")


if __name__ == "__main__":
    unittest.main()
