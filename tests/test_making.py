"""Points [87] to [90]: making rows, unmaking rows, least sets, right boards, tallies, smallest standing boards."""

import itertools
import unittest

from helper import (Case, PlainRooms, all_webs, drawn_boards, grid_web, path_web, plain_companies, plain_lay,
                    plain_signs, ring_web, tree_web)
from helper import right_boards as each_right_board
from tworooms.boards import Board, empty_board
from tworooms.counts import sure_places
from tworooms.errors import BadNumber, NoHand, NoPlace, NoStone, NotRight, TooMany
from tworooms.laying import lay_row
from tworooms.making import (is_making_row, is_unmaking_row, least_making, least_unmaking, right_boards,
                             smallest_standing, stand_tally)
from tworooms.rounds import standing, stands
from tworooms.webs import Web

HANDS = ("dark", "light")
FIVE = path_web("abcde")
# Dark stands on b; a stone on a fills one of its two rooms.
STANDS = Board(path_web("abcd"), ".d.l")
NUMBERS = (True, False, None, -1, 4, 10 ** 19)


def plain_after(board, hand, row):
    """The board after the layings of the hand, or None if one is not let."""
    signs = plain_signs(board)
    for place in row:
        if place not in signs:
            return None
        fault, signs, _, _ = plain_lay(board.web, signs, hand[0], place)
        if fault is not None:
            return None
    return Board(board.web, "".join(signs.values()))


def plain_stands(board, place):
    """Whether the company of the place stands."""
    hand = board.hand_at(place)
    part = next(part for part in plain_companies(board.web, plain_signs(board), hand[0]) if place in part)
    return part[0] in PlainRooms(board, hand).standing()


def plain_leads(board, place, row, standing_then):
    after = plain_after(board, board.hand_at(place), row)
    return after is not None and plain_stands(after, place) is standing_then


def plain_least(board, place, most, standing_then):
    """The first set that leads there, as a list, or None."""
    free = [name for name in board.web.places if board.sign(name) == "."]
    for size in range(most + 1):
        for places in itertools.combinations(free, size):
            if plain_leads(board, place, places, standing_then):
                return list(places)
    return None


def targets(boards):
    """Each board with each of its stones."""
    for board in boards:
        for place in board.web.places:
            if board.sign(place) != ".":
                yield board, place


def boards_to_make_on():
    """Right boards of small webs, and drawn ones of larger webs with not too many free places."""
    webs = [path_web("abc"), path_web("abcd"), ring_web("abcd"), Web("abcd", [("a", "b"), ("a", "c"), ("a", "d")])]
    return itertools.chain(itertools.chain.from_iterable(each_right_board(web) for web in webs),
                           drawn_boards(path_web("abcdefg"), 15, "..dl"), drawn_boards(grid_web(2, 4), 15, "..dddl"),
                           drawn_boards(tree_web(9), 15, "..ddl"))


class TestRows(Case):
    def test_all_short_rows(self):
        told = {(call, right): 0 for call in (True, False) for right in (True, False)}
        for board, place in itertools.islice(targets(boards_to_make_on()), 0, None, 6):
            for many in range(3):
                for row in itertools.product(board.web.places, repeat=many):
                    for call, then in ((is_making_row, True), (is_unmaking_row, False)):
                        right = plain_leads(board, place, row, then)
                        self.assertIs(call(board, place, list(row)), right)
                        told[then, right] += 1
        self.assertGreater(min(told.values()), 50)

    def test_the_empty_list(self):
        told = {True: 0, False: 0}
        for board, place in targets(boards_to_make_on()):
            told[stands(board, place)] += 1
            self.assertIs(is_making_row(board, place, []), stands(board, place))
            self.assertIs(is_unmaking_row(board, place, []), not stands(board, place))
        self.assertGreater(min(told.values()), 30)

    def test_refused_layings_and_texts_that_are_no_place(self):
        self.assertIs(is_unmaking_row(board=STANDS, place="b", row=["a"]), True)
        for row in (["a", "a"], ["b"], ["d"], ["z"], ["a", "z"], ["-"], ["a", "-"], [""], ["-", "a"]):
            self.assertIs(is_unmaking_row(STANDS, "b", row), False, row)
        falls = Board(FIVE, ".d...")
        self.assertIs(is_making_row(board=falls, place="b", row=["d"]), True)
        for row in (["d", "d"], ["d", "b"], ["z", "d"], ["d", "z"], ["d", "-"], ["-"], ["d", "a"], ["e"]):
            self.assertIs(is_making_row(falls, "b", row), False, row)

    def test_a_place_that_became_free_on_the_way(self):
        web = Web("abcdef", [("a", "b"), ("b", "c"), ("c", "d"), ("d", "e"), ("e", "f")])
        board = Board(web, "d.ld..")
        # The laying on b takes c.
        self.assertEqual(plain_after(board, "dark", ["b"]).signs, "dd.d..")
        for row in (["b"], ["b", "c"], ["b", "f"], ["b", "c", "e"]):
            for call, then in ((is_making_row, True), (is_unmaking_row, False)):
                self.assertIs(call(board, "a", row), plain_leads(board, "a", row, then))
        self.assertIs(is_unmaking_row(board, "a", ["b", "c"]), True)
        self.assertIs(is_unmaking_row(board, "a", ["c", "b"]), False)

    def test_an_unmaking_row_gives_up_a_sure_place(self):
        seen = 0
        for board, place in itertools.islice(targets(boards_to_make_on()), 0, None, 2):
            if not stands(board, place):
                continue
            hand, free = board.hand_at(place), board.bearing(".")
            for row in itertools.chain.from_iterable(itertools.permutations(free, many) for many in (1, 2)):
                if is_unmaking_row(board, place, list(row)):
                    seen += 1
                    before = [lay_row(board, hand, list(row[:at])) for at in range(len(row))]
                    self.assertTrue(any(laying in sure_places(now, hand) for now, laying in zip(before, row)))
        self.assertGreater(seen, 20)

    def test_the_row_stays(self):
        row = ["d", "a"]
        is_making_row(Board(FIVE, ".d..."), "b", row)
        is_unmaking_row(Board(FIVE, ".d..."), "b", row)
        self.assertEqual(row, ["d", "a"])


class TestLeastSets(Case):
    def test_all_least_sets(self):
        told = {}
        for board, place in itertools.islice(targets(boards_to_make_on()), 0, None, 3):
            for most in range(4):
                for call, then in ((least_making, True), (least_unmaking, False)):
                    answer = plain_least(board, place, most, then)
                    self.assertEqual(call(board, place, most=most), answer)
                    key = (then, None if answer is None else len(answer))
                    told[key] = told.get(key, 0) + 1
            self.assertEqual(least_making(board, place), least_making(board, place, most=2))
            self.assertEqual(least_unmaking(board, place), least_unmaking(board, place, most=2))
            if stands(board, place):
                self.assertEqual(least_making(board, place, most=0), [])
            else:
                self.assertEqual(least_unmaking(board, place, most=0), [])
        for then, sizes in ((True, (None, 0, 1, 2)), (False, (None, 0, 1))):
            for size in sizes:
                self.assertGreater(told.get((then, size), 0), 5, told)

    def test_sizes(self):
        falls = Board(FIVE, ".d...")
        self.assertEqual(least_making(board=falls, place="b", most=1), ["d"])
        self.assertIsNone(least_making(falls, "b", most=0))
        self.assertEqual(least_making(STANDS, "b", most=0), [])
        self.assertEqual(least_unmaking(board=STANDS, place="b", most=3), ["a"])
        self.assertIsNone(least_unmaking(STANDS, "b", most=0))
        comb = Board(path_web("abcdefgh"), "........").put("d", "d")
        self.assertEqual([least_making(comb, "d", most=most) for most in range(4)],
                         [plain_least(comb, "d", most, True) for most in range(4)])

    def test_a_set_that_is_let_only_in_another_order_is_no_answer(self):
        board = Board(Web("abcdef", [("a", "b"), ("b", "c"), ("c", "d"), ("d", "e"), ("e", "f")]), "d.ld..")
        for most in range(4):
            self.assertEqual(least_unmaking(board, "a", most=most), plain_least(board, "a", most, False))
            self.assertEqual(least_making(board, "a", most=most), plain_least(board, "a", most, True))

    def test_too_many_sets(self):
        # With 16 free places there are 137 sets of at most two, with 17 there are 154; with 9 there are 130 sets of at
        # most three, with 10 there are 176; no number of free places gives exactly 150 or 151.
        for names, most in (("abcdefghijklmnopq", 2), ("abcdefghij", 3)):
            board = Board(path_web(names), "." * (len(names) - 1) + "d")
            place = names[-1]
            self.assertEqual(least_making(board, place, most=most), plain_least(board, place, most, True))
            self.assertEqual(least_unmaking(board, place, most=most), [])
        many = Board(path_web("abcdefghijklmnopqr"), "." * 17 + "d")
        wide = Board(path_web("abcdefghijk"), "." * 10 + "d")
        for call in (least_making, least_unmaking):
            self.refused(TooMany("sets", 150), call, many, "r")
            self.refused(TooMany("sets", 150), call, many, "r", most=3)
            self.refused(TooMany("sets", 150), call, wide, "k", most=3)
            call(wide, "k", most=2)
            call(many, "r", most=1)
        # The company stands already and would have the empty list; it is refused all the same.
        stands_on = Board(Web([name for name in "abcdefghijklmnopqrst"], [("a", "b"), ("a", "c")]), "d" + "." * 19)
        self.assertTrue(stands(stands_on, "a"))
        self.refused(TooMany("sets", 150), least_making, stands_on, "a")
        self.assertEqual(least_making(stands_on, "a", most=1), [])

    def test_the_order_of_the_errors(self):
        many = Board(path_web("abcdefghijklmnopqr"), "." * 18)
        closed = Board(Web([name for name in "abcdefghijklmnopqrst"], []), "d" + "." * 19)
        wrong = Board(path_web("abcd"), "dl.d")
        for call in (least_making, least_unmaking):
            for bad in NUMBERS:
                self.refused(BadNumber("most", bad), call, many, "z", most=bad)
                self.refused(BadNumber("most", bad), call, wrong, "z", most=bad)
            self.refused(TooMany("sets", 150), call, many, "z")
            self.refused(TooMany("sets", 150), call, many, "a")
            self.refused(TooMany("sets", 150), call, closed, "z")
            self.refused(NoPlace("z"), call, many, "z", most=1)
            self.refused(NoPlace("-"), call, wrong, "-")
            self.refused(NotRight("a"), call, wrong, "c")
            self.refused(NotRight("a"), call, wrong, "b")
            self.refused(NoStone("a"), call, many, "a", most=1)
        for call in (is_making_row, is_unmaking_row):
            self.refused(NoPlace("z"), call, wrong, "z", ["z"])
            self.refused(NotRight("a"), call, wrong, "c", ["z"])
            self.refused(NoStone("a"), call, many, "a", ["z"])

    def test_told_lists_are_new(self):
        least_making(Board(FIVE, ".d..."), "b").append("x")
        self.assertEqual(least_making(Board(FIVE, ".d..."), "b"), ["d"])
        least_making(STANDS, "b").append("x")
        self.assertEqual(least_making(STANDS, "b"), [])
        least_unmaking(STANDS, "b").append("x")
        self.assertEqual(least_unmaking(STANDS, "b"), ["a"])
        right_boards(path_web("ab")).append("x")
        self.assertEqual(right_boards(web=path_web("ab")), ["..", ".d", ".l", "d.", "l."])
        stand_tally(path_web("abc"), "dark").append(9)
        self.assertEqual(stand_tally(path_web("abc"), "dark"), [14, 1])

    def test_the_mirrored_board(self):
        for board, place in itertools.islice(targets(boards_to_make_on()), 0, None, 7):
            self.assertEqual(least_making(-board, place), least_making(board, place))
            self.assertEqual(least_unmaking(-board, place), least_unmaking(board, place))


class TestLists(Case):
    def webs(self):
        """All webs of three places, and some of one, two, four and five."""
        return [*all_webs("abc"), *all_webs("ab"), Web("a", []), Web("abcd", []), path_web("abcd"), ring_web("abcd"),
                path_web("abcde"), ring_web("abcde"), Web("abcde", [("a", "b"), ("a", "c"), ("a", "d"), ("a", "e")]),
                Web("abcde", list(itertools.combinations("abcde", 2))), Web("abcde", [("a", "b"), ("c", "d")])]

    def test_all_lists(self):
        for web in self.webs():
            boards = list(each_right_board(web))
            self.assertEqual(right_boards(web), [board.signs for board in boards])
            for hand in HANDS:
                numbers = [len(PlainRooms(board, hand).standing()) for board in boards]
                told = [numbers.count(many) for many in range(max(numbers) + 1)]
                self.assertEqual(stand_tally(web, hand), told)
                self.assertEqual(sum(told), len(boards))
                found = [(len(board.signs) - board.signs.count("."), board.signs)
                         for board, many in zip(boards, numbers) if many > 0]
                self.assertEqual(smallest_standing(web, hand), min(found)[1] if found else None)
            self.assertEqual(stand_tally(web, "dark"), stand_tally(web, "light"))

    def test_zeros_ahead_of_a_tally_stay(self):
        # On a web without ties a lone stone is never right, so only the board without stones is.
        self.assertEqual(stand_tally(web=Web("ab", []), hand="dark"), [1])
        self.assertEqual(right_boards(Web("ab", [])), [".."])
        self.assertIsNone(smallest_standing(web=Web("ab", []), hand="light"))
        self.assertEqual(smallest_standing(path_web("abc"), "dark"), ".d.")
        self.assertEqual(smallest_standing(path_web("abc"), "light"), ".l.")
        self.assertEqual(smallest_standing(path_web("abcd"), "dark"), ".d.l")
        self.assertEqual(smallest_standing(path_web("abcd"), "light"), ".l.d")

    def test_too_many_places(self):
        six = path_web("abcdef")
        for web in (six, Web("abcdef", []), path_web("abcdefghijklmnopqrst")):
            self.refused(TooMany("places", 5), right_boards, web)
            for call in (stand_tally, smallest_standing):
                for hand in HANDS:
                    self.refused(TooMany("places", 5), call, web, hand)
                for hand in ("x", "", "Dark", "d"):
                    self.refused(NoHand(hand), call, web, hand)
                    self.refused(NoHand(hand), call, FIVE, hand)
        self.assertEqual(right_boards(FIVE)[0], empty_board(FIVE).signs)
        self.assertEqual([standing(Board(FIVE, smallest_standing(FIVE, hand)), hand) for hand in HANDS],
                         [["b", "d"], ["b", "d"]])


if __name__ == "__main__":
    unittest.main()
