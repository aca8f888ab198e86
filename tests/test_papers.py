"""Points [41] to [43], and what [44] and [45] say of papers: stand papers, whole, narrow, and given."""

import itertools
import unittest

from helper import Case, PlainRooms, TWO_COMBS, boards_to_compare, path_web, plain_reached
from tworooms.boards import Board, empty_board
from tworooms.errors import Falls, NoHand, NoPlace, NoStone, NotRight
from tworooms.papers import is_paper_for, is_stand_paper, narrow_paper, paper_rooms, stand_paper
from tworooms.rounds import is_good_family
from tworooms.webs import Web

FIVE = path_web("abcde")
RIGHT = Board(FIVE, ".d.d.")
WRONG = Board(FIVE, "dl.d.")
PAPER = [("b", "a", "c"), ("d", "c", "e")]
HANDS = ("dark", "light")
# On one path a, c and e share the rooms b and d; on the other one f and h share the room g.
COMBS = Board(TWO_COMBS, "d..d..d.d..d....")
COMBS_PAPER = [("a", "a1", "b"), ("c", "b", "c1"), ("e", "d", "e1"), ("f", "f1", "g"), ("h", "g", "h1")]


def plain_paper(plain):
    """The paper of point [42]: the two least own rooms that only standing companies border."""
    names = plain.standing()
    closed = [room for room in plain.rooms if set(plain.border[room]) <= set(names)]
    return [(name, *[room for room in plain.own[name] if room in closed][:2]) for name in names]


def plain_narrow(plain, name):
    """The narrow paper of point [43]."""
    rows = {row[0]: row for row in plain_paper(plain)}
    needed = {name}
    while True:
        more = {company for one in needed for room in rows[one][1:] for company in plain.border[room]} | needed
        if more == needed:
            return [rows[company] for company in sorted(needed)]
        needed = more


def plain_is_paper(plain, rows):
    """What point [41] asks of a paper."""
    names = [row[0] for row in rows]
    return (len(set(names)) == len(names) and set(names) <= set(plain.companies)
            and all(one != two and {one, two} <= set(plain.own[name]) for name, one, two in rows)
            and all(set(plain.border[room]) <= set(names) for row in rows for room in row[1:]))


class TestPapers(Case):
    def test_the_document_example(self):
        self.assertEqual(stand_paper(RIGHT, "dark"), PAPER)

    def test_all_papers_are_as_the_points_say(self):
        for board in boards_to_compare():
            for hand in HANDS:
                plain = PlainRooms(board, hand)
                paper = stand_paper(board, hand)
                self.assertEqual(paper, plain_paper(plain))
                self.assertIs(is_stand_paper(board, hand, paper), True)
                for name, places in plain.companies.items():
                    if name in plain.standing():
                        self.check_narrow(board, hand, places[-1], plain_narrow(plain, name))
                    else:
                        self.refused(Falls(places[-1]), narrow_paper, board, places[-1])
                        self.assertIs(is_paper_for(board, places[-1], paper), False)

    def check_narrow(self, board, hand, place, rows):
        self.assertEqual(narrow_paper(board, place), rows)
        self.assertIs(is_stand_paper(board, hand, rows), True)
        self.assertIs(is_paper_for(board, place, rows), True)

    def test_whole_and_narrow_papers(self):
        self.assertEqual(stand_paper(board=COMBS, hand="dark"), COMBS_PAPER)
        self.assertEqual(stand_paper(COMBS, "light"), [])
        self.assertEqual(narrow_paper(board=COMBS, place="a"), COMBS_PAPER[:2])
        self.assertEqual(narrow_paper(COMBS, "c"), COMBS_PAPER[:2])
        self.assertEqual(narrow_paper(COMBS, "e"), COMBS_PAPER[:3])
        self.assertEqual(narrow_paper(COMBS, "f"), COMBS_PAPER[3:])
        self.assertEqual(narrow_paper(Board(path_web("abcd"), ".dd."), "c"), [("b", "a", "d")])
        self.assertEqual(stand_paper(empty_board(FIVE), "dark"), [])

    def test_rooms_that_went_out_are_in_no_row(self):
        # f goes out and takes the room a with it; d keeps two rooms of its own at d1 and d2.
        web = Web(["a", "d", "d1", "d2", "f", "g", "h"], [("a", "d"), ("a", "f"), ("d", "d1"), ("d", "d2"),
                                                          ("f", "g"), ("g", "h")])
        board = Board(web, ".d..d..")
        self.assertEqual(stand_paper(board, "dark"), [("d", "d1", "d2")])
        self.refused(Falls("f"), narrow_paper, board, "f")

    def test_a_company_of_a_right_paper_is_never_taken(self):
        many = 0
        for board in itertools.islice(boards_to_compare(), 0, None, 2):
            for hand in HANDS:
                paper = stand_paper(board, hand)
                if paper and len(board.web) < 11:
                    many += 1
                    plain = PlainRooms(board, hand)
                    kept = [place for row in paper for place in plain.companies[row[0]]]
                    for text in plain_reached(board, hand):
                        signs = dict(zip(board.web.places, text))
                        self.assertEqual({signs[place] for place in kept}, {hand[0]})
        self.assertGreater(many, 20)


class TestGivenPapers(Case):
    def test_all_rows_of_small_boards(self):
        told = {True: 0, False: 0}
        for board in itertools.islice(boards_to_compare(), 0, None, 9):
            for hand in HANDS:
                plain = PlainRooms(board, hand)
                rows = [(name, one, two) for name in plain.companies for one in plain.own[name]
                        for two in plain.own[name] if one < two][:5]
                for paper in itertools.chain.from_iterable(itertools.permutations(rows, many) for many in range(4)):
                    right = plain_is_paper(plain, paper)
                    told[right] += 1
                    self.assertIs(is_stand_paper(board, hand, list(paper)), right)
                    if right:
                        self.assertIs(is_good_family(board, hand, [row[0] for row in paper]), True)
        self.assertGreater(min(told.values()), 100)

    def test_rows_and_rooms_in_any_order(self):
        for rows in itertools.permutations(COMBS_PAPER):
            self.assertIs(is_stand_paper(COMBS, "dark", list(rows)), True)
        for swaps in itertools.product((False, True), repeat=5):
            rows = [(name, two, one) if swap else (name, one, two)
                    for swap, (name, one, two) in zip(swaps, COMBS_PAPER)]
            self.assertIs(is_stand_paper(COMBS, "dark", rows), True)

    def test_other_rooms_and_more_rows_than_needed(self):
        self.assertIs(is_stand_paper(COMBS, "dark", [("c", "c1", "b"), ("a", "a1", "b")]), True)
        self.assertIs(is_stand_paper(COMBS, "dark", [("c", "d", "b"), ("a", "a1", "b"), ("e", "d", "e1")]), True)
        self.assertIs(is_paper_for(COMBS, "f", COMBS_PAPER), True)
        self.assertIs(is_paper_for(COMBS, "f", COMBS_PAPER[:3]), False)

    def test_the_empty_list(self):
        for board in (RIGHT, COMBS, empty_board(FIVE)):
            for hand in HANDS:
                self.assertIs(is_stand_paper(board, hand, []), True)
        self.assertIs(is_paper_for(RIGHT, "b", []), False)

    def test_each_way_of_being_wrong(self):
        one, two = PAPER
        for rows in ([one], [two], [one, two, one], [one, one, two], [("b", "a", "a"), two], [("b", "c", "c"), two],
                     [("b", "a", "e"), two], [("b", "e", "a"), two], [one, ("d", "e", "e")], [one, ("e", "c", "e")],
                     [one, two, ("z", "a", "c")], [one, two, ("", "", "")], [("b", "a", "z"), two],
                     [("b", "", "c"), two], [("b", "b", "c"), two], [("a", "b", "c"), two], [("b", "a", "d"), two],
                     [one, two, ("b", "a", "c")], [("c", "a", "c"), two]):
            self.assertIs(is_stand_paper(board=RIGHT, hand="dark", rows=rows), False)
            self.assertIs(is_paper_for(board=RIGHT, place="b", rows=rows), False)
        self.assertIs(is_stand_paper(RIGHT, "light", PAPER), False)
        self.assertIs(is_stand_paper(RIGHT, "dark", PAPER), True)

    def test_other_places_of_companies_and_rooms_are_no_names(self):
        board = Board(path_web("abcdef"), ".dd.ll")
        self.assertIs(is_stand_paper(board, "dark", [("b", "a", "d")]), True)
        self.assertIs(is_stand_paper(board, "dark", [("c", "a", "d")]), False)
        self.assertIs(is_stand_paper(board, "dark", [("b", "a", "e")]), False)
        self.assertIs(is_paper_for(board, "c", [("b", "a", "d")]), True)
        self.assertIs(is_paper_for(board, "f", [("b", "a", "d")]), False)

    def test_paper_rooms(self):
        self.assertEqual(paper_rooms(rows=COMBS_PAPER), ["a1", "b", "c1", "d", "e1", "f1", "g", "h1"])
        self.assertEqual(paper_rooms([]), [])
        self.assertEqual(paper_rooms([("x", "y", "y"), ("y", "", "%"), ("y", "y", "b2")]), ["", "%", "b2", "y"])

    def test_the_rows_stay(self):
        rows = list(reversed(PAPER))
        for told in (is_stand_paper(RIGHT, "dark", rows), is_paper_for(RIGHT, "b", rows)):
            self.assertIs(told, True)
        paper_rooms(rows)
        self.assertEqual(rows, list(reversed(PAPER)))

    def test_told_papers_are_new(self):
        stand_paper(RIGHT, "dark").pop()
        narrow_paper(RIGHT, "b").pop()
        paper_rooms(PAPER).pop()
        self.assertEqual((stand_paper(RIGHT, "dark"), narrow_paper(RIGHT, "b")), (PAPER, PAPER))
        self.assertEqual(paper_rooms(PAPER), ["a", "c", "e"])

    def test_the_order_of_the_errors(self):
        self.refused(NoHand("x"), stand_paper, WRONG, "x")
        self.refused(NotRight("a"), stand_paper, WRONG, "dark")
        self.refused(NoHand("x"), is_stand_paper, WRONG, "x", PAPER)
        self.refused(NotRight("a"), is_stand_paper, WRONG, "dark", [])
        for call, rest in ((narrow_paper, []), (is_paper_for, [[]]), (is_paper_for, [[("z", "", "b")]])):
            for place in ("z", "", "-"):
                self.refused(NoPlace(place), call, WRONG, place, *rest)
                self.refused(NoPlace(place), call, RIGHT, place, *rest)
            self.refused(NotRight("a"), call, WRONG, "c", *rest)
            self.refused(NotRight("a"), call, WRONG, "a", *rest)
            self.refused(NoStone("c"), call, RIGHT, "c", *rest)
        self.refused(Falls("c"), narrow_paper, Board(FIVE, ".dd.."), "c")

    def test_the_mirrored_board(self):
        for board in boards_to_compare():
            self.assertEqual(stand_paper(board, "dark"), stand_paper(-board, "light"))
            for name, _, _ in stand_paper(board, "light"):
                paper = narrow_paper(board, name)
                self.assertEqual(paper, narrow_paper(-board, name))
                self.assertIs(is_stand_paper(-board, "dark", paper), True)
                self.assertIs(is_paper_for(-board, name, paper), True)


if __name__ == "__main__":
    unittest.main()
