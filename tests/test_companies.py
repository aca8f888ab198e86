"""Points [15] to [18]: companies, what touches them, free neighbours, and right boards."""

import unittest

from helper import (Case, all_boards, all_webs, grid_web, path_web, plain_closed, plain_companies, plain_free,
                    plain_near, plain_signs, ring_web)
from tworooms.boards import Board
from tworooms.companies import (check_right, closed_companies, company_names, company_of, free_neighbours, is_right,
                                name_of, touched_by)
from tworooms.errors import NoHand, NoPlace, NoStone, NotRight
from tworooms.webs import Web

PATH = path_web("abcd")
NO_PLACES = ["e", "", "-", "A", "ab", "dark"]
NO_HANDS = ["", "Dark", "d", "both", "a", "-"]


def boards_to_compare():
    """All boards on all webs of three places, on four places with few ties, and on two larger webs."""
    for web in all_webs("abc"):
        yield from all_boards(web)
    for web in (path_web("abcd"), ring_web("abcd"), Web("abcd", [("a", "c"), ("b", "c"), ("c", "d")]),
                Web("abcd", [("a", "d"), ("b", "c")])):
        yield from all_boards(web)
    for signs in ("ddl.ld.lldd.", "d.d.d.d.d.d.", "llll.ddd....", "dldldldldldl", "dd.lldd.lldl", "............"):
        yield Board(grid_web(3, 4), signs)
        yield Board(ring_web("abcdefghijkl"), signs)


class TestCompanies(Case):
    def test_the_document_example(self):
        self.assertEqual(free_neighbours(Board(PATH, ".dd."), "c"), ["a", "d"])

    def test_all_are_as_the_plain_way_tells(self):
        for board in boards_to_compare():
            web, signs = board.web, plain_signs(board)
            near = plain_near(web)
            for hand in ("dark", "light"):
                companies = plain_companies(web, signs, hand[0])
                self.assertEqual(company_names(board, hand), [company[0] for company in companies])
                for company in companies:
                    for place in company:
                        self.assertEqual(company_of(board, place), company)
                        self.assertEqual(name_of(board, place), company[0])
                        self.assertEqual(free_neighbours(board, place), plain_free(web, signs, company))
                for place in web.places:
                    told = [company[0] for company in companies if place not in company and near[place] & set(company)]
                    self.assertEqual(touched_by(board, place, hand), told)

    def test_right_boards_are_as_the_plain_way_tells(self):
        for board in boards_to_compare():
            closed = [company[0] for company in plain_closed(board.web, plain_signs(board))]
            self.assertEqual(closed_companies(board), closed)
            self.assertIs(is_right(board), not closed)
            if closed:
                self.refused(NotRight(closed[0]), check_right, board)
            else:
                self.assertIsNone(check_right(board))

    def test_by_name(self):
        board = Board(PATH, "dd.l")
        self.assertEqual(company_of(board=board, place="b"), ["a", "b"])
        self.assertEqual(name_of(board=board, place="b"), "a")
        self.assertEqual(company_names(board=board, hand="light"), ["d"])
        self.assertEqual(free_neighbours(board=board, place="a"), ["c"])
        self.assertEqual(touched_by(board=board, place="c", hand="dark"), ["a"])
        self.assertEqual(closed_companies(board=board), [])
        self.assertIs(is_right(board=board), True)
        self.assertIsNone(check_right(board=board))

    def test_no_place_and_no_stone(self):
        for signs in (".dl.", "ld.."):
            board = Board(PATH, signs)
            for call in (company_of, name_of, free_neighbours):
                for text in NO_PLACES:
                    self.refused(NoPlace(text), call, board, text)
                self.refused(NoStone("d"), call, board, "d")

    def test_no_hand(self):
        for board in (Board(PATH, "...."), Board(PATH, "dl..")):
            for text in NO_HANDS:
                self.refused(NoHand(text), company_names, board, text)
                self.refused(NoHand(text), touched_by, board, "a", text)
                self.refused(NoHand(text), touched_by, board, "z", text)
            for text in NO_PLACES:
                self.refused(NoPlace(text), touched_by, board, text, "dark")

    def test_touched_by(self):
        star = Web("abcde", [("a", "e"), ("b", "e"), ("c", "e"), ("d", "e")])
        board = Board(star, "dld..")
        self.assertEqual(touched_by(board, "e", "dark"), ["a", "c"])
        self.assertEqual(touched_by(board, "e", "light"), ["b"])
        board = Board(star, "dldll")
        self.assertEqual(touched_by(board, "e", "dark"), ["a", "c"])
        self.assertEqual(touched_by(board, "e", "light"), [])
        self.assertEqual(touched_by(board, "a", "light"), ["b"])
        self.assertEqual(touched_by(board, "a", "dark"), [])
        self.assertEqual(touched_by(Board(ring_web("abcd"), "d.dd"), "b", "dark"), ["a"])

    def test_not_right_tells_the_least_name_of_both_hands(self):
        self.refused(NotRight("a"), check_right, Board(PATH, "ld.."))
        self.refused(NotRight("a"), check_right, Board(PATH, "ddl."))
        self.refused(NotRight("d"), check_right, Board(PATH, "..dl"))
        self.refused(NotRight("c"), check_right, Board(PATH, ".ldd"))
        self.refused(NotRight("c"), check_right, Board(PATH, ".ldl"))
        self.refused(NotRight("a"), check_right, Board(Web(["a"], []), "l"))
        self.refused(NotRight("b"), check_right, Board(Web("abc", []), ".ld"))

    def test_lone_places_and_empty_boards(self):
        lone = Web("ab", [])
        self.assertIs(is_right(Board(lone, "..")), True)
        self.assertIs(is_right(Board(lone, "d.")), False)
        self.assertEqual(closed_companies(Board(lone, "ld")), ["a", "b"])
        self.assertEqual(company_names(Board(lone, "dd"), "dark"), ["a", "b"])

    def test_told_lists_are_new(self):
        board = Board(PATH, ".dd.")
        for call in (lambda: company_of(board, "b"), lambda: free_neighbours(board, "b"),
                     lambda: company_names(board, "dark"), lambda: touched_by(board, "a", "dark")):
            first = call()
            kept = list(first)
            first.append("x")
            self.assertEqual(call(), kept)
        self.assertEqual(board, Board(PATH, ".dd."))

    def test_the_mirrored_board(self):
        for board in boards_to_compare():
            self.assertEqual(company_names(-board, "light"), company_names(board, "dark"))
            self.assertEqual(company_names(-board, "dark"), company_names(board, "light"))
            self.assertEqual(closed_companies(-board), closed_companies(board))


if __name__ == "__main__":
    unittest.main()
