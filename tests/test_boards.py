"""Points [9], [13], [14] and the mirrored board of [96]: boards and their text form."""

import itertools
import unittest

from helper import Case, all_boards, all_webs, path_web, ring_web
from tworooms.boards import Board, empty_board, read_board, write_board
from tworooms.errors import BadSigns, BadText, NoPlace
from tworooms.webs import Web

NO_SIGNS = ["", "..", "dl", "D", "L", "x", "dark", " ", "\n", "d ", ".d"]


class TestMaking(Case):
    def test_properties(self):
        web = Web(["b", "a", "c"], [("a", "b")])
        board = Board(web, "d.l")
        self.assertEqual(board.signs, "d.l")
        self.assertEqual(board.web, web)
        self.assertEqual(Board(web=web, signs="..."), empty_board(web))

    def test_signs_stand_in_the_order_of_the_places(self):
        board = Board(Web(["a2", "b", "a10"], []), "d.l")
        self.assertEqual([board.sign(place) for place in ("a10", "a2", "b")], ["d", ".", "l"])

    def test_bad_signs(self):
        web = path_web("abc")
        told = {
            "": 0, ".": 1, "dl": 2, "....": 3, "dddd": 3, "x..": 0, ".x.": 1, "..x": 2, "...x": 3, ".x": 1, "x": 0,
            "..D": 2, "d d": 1, "d.\n": 2, "...\n": 3, "d.xx": 2, "d-l": 1, "D": 0, ".....": 3,
        }
        for signs, at in told.items():
            self.refused(BadSigns(at), Board, web, signs)

    def test_bad_signs_of_each_length(self):
        for many in (1, 2, 20):
            web = Web(["p" + str(k) for k in range(many)], [])
            for length in range(many + 3):
                signs = ".dl"[length % 3] * length
                if length == many:
                    self.assertEqual(Board(web, signs).signs, signs)
                else:
                    self.refused(BadSigns(min(many, length)), Board, web, signs)

    def test_empty_board(self):
        self.assertEqual(empty_board(path_web("abcd")).signs, "....")
        self.assertEqual(empty_board(web=Web(["a"], [])).signs, ".")


class TestReading(Case):
    def test_sign_and_hand_at(self):
        board = Board(path_web("abc"), "d.l")
        self.assertEqual([board.sign(place) for place in "abc"], ["d", ".", "l"])
        self.assertEqual([board.hand_at(place) for place in "abc"], ["dark", None, "light"])
        self.assertEqual((board.sign(place="a"), board.hand_at(place="c")), ("d", "light"))

    def test_no_place(self):
        board = Board(path_web("abc"), "d.l")
        for text in ["d", "", "-", "A", "ab", "x"]:
            self.refused(NoPlace(text), board.sign, text)
            self.refused(NoPlace(text), board.hand_at, text)
            self.refused(NoPlace(text), board.put, text, "d")
            self.refused(NoPlace(text), board.put, text, "x")

    def test_bearing(self):
        board = Board(Web(["a2", "b", "a10", "c", "d"], []), "d.dl.")
        self.assertEqual(board.bearing("d"), ["a10", "b"])
        self.assertEqual(board.bearing("."), ["a2", "d"])
        self.assertEqual(board.bearing(sign="l"), ["c"])
        for text in NO_SIGNS:
            self.assertEqual(board.bearing(text), [])
        self.assertEqual(Board(path_web("ab"), "..").bearing("d"), [])

    def test_bearing_is_a_new_list(self):
        board = Board(path_web("abc"), "d.l")
        board.bearing("d").append("x")
        board.web.places.append("x")
        self.assertEqual(board.bearing("d"), ["a"])
        self.assertEqual(board, Board(path_web("abc"), "d.l"))

    def test_put(self):
        for board in all_boards(path_web("abc")):
            for at, place in enumerate("abc"):
                for sign in ".dl":
                    before = board.signs
                    after = board.put(place, sign)
                    self.assertEqual(after.signs, before[:at] + sign + before[at + 1:])
                    self.assertEqual(after.web, board.web)
                    self.assertEqual(board.signs, before)
                    self.assertEqual(after.sign(place), sign)
        self.assertEqual(Board(path_web("ab"), "..").put(place="b", sign="l").signs, ".l")

    def test_put_of_no_sign(self):
        board = Board(path_web("abc"), "d.l")
        for text in NO_SIGNS:
            self.refused(BadSigns(0), board.put, "c", text)
            self.refused(NoPlace("z"), board.put, "z", text)
        self.assertEqual(board.signs, "d.l")

    def test_equality(self):
        board = Board(path_web("abc"), "d.l")
        self.assertTrue(board == Board(path_web("abc"), "d.l"))
        self.assertFalse(board != Board(path_web("abc"), "d.l"))
        for other in (Board(path_web("abc"), "d.d"), Board(ring_web("abc"), "d.l"), Board(path_web("abd"), "d.l"),
                      path_web("abc"), "d.l", None, 1):
            self.assertIs(board == other, False)
            self.assertIs(board != other, True)

    def test_mirrored_board(self):
        for board in all_boards(path_web("abc")):
            before = board.signs
            mirrored = -board
            self.assertIs(type(mirrored), Board)
            self.assertEqual(mirrored.signs, before.replace("d", "x").replace("l", "d").replace("x", "l"))
            self.assertEqual(mirrored.web, board.web)
            self.assertEqual(-mirrored, board)
            self.assertEqual(board.signs, before)
            self.assertEqual(mirrored.bearing("d"), board.bearing("l"))
            self.assertEqual(mirrored.bearing("l"), board.bearing("d"))


class TestTextForm(Case):
    def test_writing(self):
        board = Board(Web(["b", "a", "c"], [("c", "b")]), "d.l")
        self.assertEqual(write_board(board), "places a b c\nties b-c\nboard d.l")
        self.assertEqual(write_board(board=Board(Web(["a"], []), ".")), "places a\nties\nboard .")

    def test_reading_back(self):
        for web in itertools.islice(all_webs("abc"), 8):
            for board in all_boards(web):
                self.assertEqual(read_board(write_board(board)), board)
        self.assertEqual(read_board(text="places a\nties\nboard l"), Board(Web(["a"], []), "l"))

    def test_the_board_need_not_be_right(self):
        self.assertEqual(read_board("places a b\nties a-b\nboard dl").signs, "dl")

    def test_first_wrong_word(self):
        head = "places a b c\nties a-b\n"
        told = {
            "": (1, 1), "places a\nties x\nboard .": (2, 2), "places\nties\nboard": (1, 2),
            "places a b c\nties a-b": (3, 1), head: (3, 1), head + "signs ...": (3, 1), head + " board ...": (3, 1),
            head + "...": (3, 1), head + "board": (3, 2), head + "board ": (3, 2), head + "board  ...": (3, 2),
            head + "board ..": (3, 2), head + "board ....": (3, 2), head + "board ..x": (3, 2),
            head + "board D..": (3, 2), head + "board ..x more": (3, 2), head + "board . . .": (3, 2),
            head + "board ... ": (3, 3), head + "board ... ...": (3, 3), head + "board ...\n": (4, 1),
            head + "board ...\nfirst dark": (4, 1), head + "board ... x\nfirst": (3, 3), head + "board\n": (3, 2),
        }
        for text, (line, word) in told.items():
            self.refused(BadText(line, word), read_board, text)

    def test_only_written_texts_are_read(self):
        text = "places a b\nties a-b\nboard d."
        for at in range(len(text) + 1):
            for new in ["", " ", "\n", "a", "b", "-", ".", "d", "l"]:
                for rest in (at, at + 1):
                    changed = text[:at] + new + text[rest:]
                    try:
                        board = read_board(changed)
                    except BadText:
                        continue
                    self.assertEqual(write_board(board), changed)


if __name__ == "__main__":
    unittest.main()
