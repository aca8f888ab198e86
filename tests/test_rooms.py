"""Points [30] to [34], and [21] told by rooms: rooms, their border companies, own rooms and the room table."""

import unittest

from helper import Case, PlainRooms, boards_to_compare, other, path_web, ring_web
from tworooms.boards import Board, empty_board
from tworooms.errors import NoEntry, NoHand, NoPlace, NoStone, NotRight
from tworooms.laying import lay_fault, taken_by
from tworooms.rooms import RoomTable, owns, room_border, room_of, rooms_of
from tworooms.webs import Web

FIVE = path_web("abcde")
RIGHT = Board(FIVE, ".d.d.")
WRONG = Board(FIVE, "dl.d.")
NO_NAMES = ["z", "", "-", "A", "ab"]
# The free place g touches both dark companies, b-f and d; e stands between d and the light stone on h.
BUSY = Board(Web("abcdefgh", [("a", "b"), ("b", "c"), ("c", "d"), ("d", "e"), ("b", "f"), ("f", "g"), ("d", "g"),
                              ("e", "h")]), ".d.d.d.l")


class TestRooms(Case):
    def test_all_rooms_are_as_the_points_say(self):
        for board in boards_to_compare():
            for hand in ("dark", "light"):
                plain = PlainRooms(board, hand)
                self.assertEqual(rooms_of(board, hand), list(plain.rooms.values()))
                for place in board.web.places:
                    name = next((name for name, places in plain.rooms.items() if place in places), None)
                    self.assertEqual(room_of(board, hand, place), plain.rooms.get(name, []))
                    self.assertEqual(room_border(board, hand, place), plain.border.get(name, []))
                for company, places in plain.companies.items():
                    for name in board.web.places:
                        own = any(name in plain.rooms[room] for room in plain.own[company])
                        self.assertIs(owns(board, places[-1], name), own)

    def test_each_room_has_a_free_place_and_an_own_room_touches_its_company(self):
        for board in boards_to_compare():
            for hand in ("dark", "light"):
                table = RoomTable(board, hand)
                for room in table:
                    self.assertTrue([place for place in table.room_places(room) if board.sign(place) == "."])
                    for company in table.own_companies(room):
                        self.assertIn(company, table.border_of(room))
                for place in board.web.places:
                    inside = [room for room in table if place in table.room_places(room)]
                    self.assertEqual(len(inside), 0 if board.sign(place) == hand[0] else 1)

    def test_layings_told_by_rooms(self):
        for board in boards_to_compare():
            for hand in ("dark", "light"):
                for room in rooms_of(board, other(hand)):
                    free = [place for place in room if board.sign(place) == "."]
                    for place in free:
                        let = len(free) > 1 or len(taken_by(board, hand, place)) > 0
                        self.assertEqual(lay_fault(board, hand, place), None if let else "self-taking")

    def test_no_stones_of_the_hand(self):
        web = Web("abcd", [("a", "b"), ("c", "d")])
        for signs in ("....", ".l.."):
            board = Board(web, signs)
            self.assertEqual(rooms_of(board, "dark"), [["a", "b"], ["c", "d"]])
            self.assertEqual(room_of(board, "dark", "b"), ["a", "b"])
            self.assertEqual(room_border(board, "dark", "b"), [])
            self.assertEqual(RoomTable(board, "dark").companies, [])

    def test_stones_of_the_other_hand_are_in_the_rooms(self):
        board = Board(FIVE, ".dl.d")
        self.assertEqual(rooms_of(board, "dark"), [["a"], ["c", "d"]])
        self.assertEqual(rooms_of(board, "light"), [["a", "b"], ["d", "e"]])
        self.assertEqual(room_of(board, "dark", "c"), ["c", "d"])
        self.assertEqual(room_border(board, "dark", "c"), ["b", "e"])
        # d is the only free place of the room c-d, and it touches e alone.
        self.assertIs(owns(board, "e", "c"), True)
        self.assertIs(owns(board, "b", "c"), False)
        self.assertIs(owns(board, "b", "a"), True)
        self.assertIs(owns(board, "e", "a"), False)

    def test_one_border_company_and_several(self):
        self.assertEqual(rooms_of(BUSY, "dark"), [["a"], ["c"], ["e", "h"], ["g"]])
        self.assertEqual([room_border(BUSY, "dark", place) for place in "acehg"],
                         [["b"], ["b", "d"], ["d"], ["d"], ["b", "d"]])
        self.assertEqual(RoomTable(BUSY, "dark").own_companies("g"), ["b", "d"])
        self.assertEqual(room_border(Board(ring_web("abcd"), "d..."), "dark", "c"), ["a"])

    def test_places_that_bear_a_stone_of_the_hand(self):
        self.assertEqual(room_of(RIGHT, "dark", "b"), [])
        self.assertEqual(room_border(RIGHT, "dark", "b"), [])
        self.assertIs(owns(RIGHT, "b", "b"), False)
        self.assertIs(owns(RIGHT, "b", "d"), False)

    def test_any_place_of_company_and_room(self):
        board = Board(path_web("abcdef"), ".dd.l.")
        for place in "bc":
            self.assertIs(owns(board, place, "a"), True)
            self.assertIs(owns(board, place, "d"), False)
            self.assertIs(owns(board, place, "f"), False)
        self.assertIs(owns(Board(path_web("abcde"), "l.d.l"), "c", "a"), True)
        self.assertIs(owns(board, "e", "f"), True)

    def test_the_mirrored_board(self):
        for board in boards_to_compare():
            for place in board.web.places:
                self.assertEqual(room_of(board, "dark", place), room_of(-board, "light", place))
                self.assertEqual(room_border(board, "light", place), room_border(-board, "dark", place))
                if board.sign(place) != ".":
                    self.assertEqual([owns(board, place, room) for room in board.web],
                                     [owns(-board, place, room) for room in board.web])
            self.assertEqual(rooms_of(board, "dark"), rooms_of(-board, "light"))

    def test_the_order_of_the_errors(self):
        for board in (RIGHT, WRONG):
            self.refused(NoHand("x"), rooms_of, board, "x")
            for call in (room_of, room_border):
                self.refused(NoHand("Dark"), call, board, "Dark", "z")
                for place in NO_NAMES:
                    self.refused(NoPlace(place), call, board, "light", place)
            self.refused(NoPlace("z"), owns, board, "z", "y")
            self.refused(NoPlace("y"), owns, board, "a", "y")
            self.refused(NoPlace("z"), owns, board, "z", "a")
        self.refused(NotRight("a"), rooms_of, WRONG, "dark")
        self.refused(NotRight("a"), room_of, WRONG, "dark", "c")
        self.refused(NotRight("a"), room_border, WRONG, "light", "c")
        self.refused(NotRight("a"), owns, WRONG, "c", "a")
        self.refused(NotRight("a"), owns, WRONG, "a", "c")
        self.refused(NoStone("a"), owns, RIGHT, "a", "b")
        self.refused(NoStone("c"), owns, RIGHT, "c", "c")
        self.assertEqual(RIGHT, Board(FIVE, ".d.d."))

    def test_by_name(self):
        self.assertEqual(rooms_of(board=RIGHT, hand="dark"), [["a"], ["c"], ["e"]])
        self.assertEqual(room_of(board=RIGHT, hand="dark", place="a"), ["a"])
        self.assertEqual(room_border(board=RIGHT, hand="dark", place="c"), ["b", "d"])
        self.assertIs(owns(board=RIGHT, place="b", room="c"), True)

    def test_told_lists_are_new(self):
        rooms_of(RIGHT, "dark")[0].append("x")
        room_of(RIGHT, "dark", "a").append("x")
        room_border(RIGHT, "dark", "a").append("x")
        self.assertEqual(rooms_of(RIGHT, "dark"), [["a"], ["c"], ["e"]])
        self.assertEqual(room_of(RIGHT, "dark", "a"), ["a"])
        self.assertEqual(room_border(RIGHT, "dark", "a"), ["b"])


class TestTable(Case):
    def test_all_tables_are_as_the_points_say(self):
        for board in boards_to_compare():
            for hand in ("dark", "light"):
                table, plain = RoomTable(board, hand), PlainRooms(board, hand)
                self.assertEqual((table.hand, table.board), (hand, board))
                self.assertEqual((table.companies, table.rooms), (list(plain.companies), list(plain.rooms)))
                self.assertEqual((len(table), list(table)), (len(plain.rooms), list(plain.rooms)))
                for name, places in plain.companies.items():
                    self.assertEqual(table.company_places(name), places)
                    self.assertEqual(table.own_rooms(name), plain.own[name])
                    self.assertEqual(table.rooms_at(name), [room for room in table if name in plain.border[room]])
                for room, places in plain.rooms.items():
                    self.assertEqual(table.room_places(room), places)
                    self.assertEqual(table.border_of(room), plain.border[room])
                    self.assertEqual(table.own_companies(room),
                                     [name for name in table.companies if room in plain.own[name]])

    def test_a_busy_table(self):
        table = RoomTable(BUSY, "dark")
        self.assertEqual((table.companies, table.rooms), (["b", "d"], ["a", "c", "e", "g"]))
        self.assertEqual(table.company_places("b"), ["b", "f"])
        self.assertEqual(table.room_places("e"), ["e", "h"])
        self.assertEqual(table.own_rooms("d"), ["c", "e", "g"])
        self.assertEqual(table.rooms_at("b"), ["a", "c", "g"])
        self.assertEqual(RoomTable(BUSY, "light").rooms, ["a"])

    def test_touching_is_not_owning(self):
        table = RoomTable(Board(FIVE, ".d..."), "dark")
        self.assertEqual(table.rooms_at("b"), ["a", "c"])
        self.assertEqual(table.own_rooms("b"), ["a"])
        self.assertEqual((table.own_companies("c"), table.border_of("c")), ([], ["b"]))

    def test_names_that_are_no_entries(self):
        table = RoomTable(BUSY, "dark")
        for call in (table.room_places, table.border_of, table.own_companies):
            for name in NO_NAMES + ["b", "d", "f", "h"]:
                self.refused(NoEntry(name), call, name)
        for call in (table.company_places, table.own_rooms, table.rooms_at):
            for name in NO_NAMES + ["a", "c", "f", "g", "h"]:
                self.refused(NoEntry(name), call, name)

    def test_without_stones(self):
        table = RoomTable(empty_board(FIVE), "light")
        self.assertEqual((table.companies, table.rooms, len(table)), ([], ["a"], 1))
        self.assertEqual((table.border_of("a"), table.own_companies("a")), ([], []))
        self.refused(NoEntry("a"), table.own_rooms, "a")

    def test_told_lists_are_new(self):
        table = RoomTable(RIGHT, "dark")
        for told in (table.companies, table.rooms, table.room_places("a"), table.company_places("b"),
                     table.border_of("c"), table.own_rooms("b"), table.own_companies("c"), table.rooms_at("d")):
            told.append("x")
        self.assertEqual((table.companies, table.rooms, list(table)), (["b", "d"], ["a", "c", "e"], ["a", "c", "e"]))
        self.assertEqual((table.room_places("a"), table.company_places("b")), (["a"], ["b"]))
        self.assertEqual((table.border_of("c"), table.own_companies("c")), (["b", "d"], ["b", "d"]))
        self.assertEqual((table.own_rooms("b"), table.rooms_at("d")), (["a", "c"], ["c", "e"]))

    def test_the_errors_of_the_table(self):
        self.refused(NoHand("x"), RoomTable, WRONG, "x")
        self.refused(NoHand(""), RoomTable, RIGHT, "")
        self.refused(NotRight("a"), RoomTable, WRONG, "light")

    def test_by_name(self):
        table = RoomTable(board=RIGHT, hand="dark")
        self.assertEqual(table.room_places(room="a"), ["a"])
        self.assertEqual(table.border_of(room="a"), ["b"])
        self.assertEqual(table.own_companies(room="a"), ["b"])
        self.assertEqual(table.company_places(company="b"), ["b"])
        self.assertEqual(table.own_rooms(company="b"), ["a", "c"])
        self.assertEqual(table.rooms_at(company="b"), ["a", "c"])

    def test_the_mirrored_board(self):
        for board in boards_to_compare():
            one, two = RoomTable(board, "light"), RoomTable(-board, "dark")
            self.assertEqual((one.companies, one.rooms), (two.companies, two.rooms))
            for name in one.companies:
                self.assertEqual((one.own_rooms(name), one.rooms_at(name)), (two.own_rooms(name), two.rooms_at(name)))


if __name__ == "__main__":
    unittest.main()
