"""Points [35] to [40]: good families, rounds, the order out, kept rooms, logs and ranks."""

import itertools
import unittest

from helper import Case, PlainRooms, TWO_COMBS, boards_to_compare, drawn_boards, grid_web, path_web, subsets, tree_web
from tworooms.boards import Board, empty_board
from tworooms.errors import NoHand, NoPlace, NoStone, NotRight, Stands, TooMany
from tworooms.rounds import (is_good_family, is_log, kept_room, out_order, ranks, rounds_of, standing, standing_both,
                             standing_plain, stands)
from tworooms.webs import Web

FIVE = path_web("abcde")
WRONG = Board(FIVE, "dl.d.")
CHAIN = path_web("abcdefghi")
HANDS = ("dark", "light")
# Each company but the last has one room with the company in front of it; the place i is outside of all own rooms.
LADDER = Board(CHAIN, ".d.d.d...")


def plain_logs(plain, companies, rooms):
    """All right logs from the companies and rooms that are alive."""
    weak = sorted(name for name in companies if len(rooms & set(plain.own[name])) < 2)
    if not weak:
        yield []
    for out in subsets(weak)[1:]:
        gone = {room for room in rooms if set(out) & set(plain.border[room])}
        for rest in plain_logs(plain, companies - set(out), rooms - gone):
            yield [(list(out), sorted(gone))] + rest


class TestStanding(Case):
    def test_the_document_examples(self):
        self.assertEqual(standing(Board(FIVE, ".d.d."), "dark"), ["b", "d"])
        self.assertEqual(rounds_of(Board(FIVE, ".d..."), "dark"), [(["b"], ["a", "c"])])

    def test_standing_is_the_greatest_good_family(self):
        many = 0
        for board in boards_to_compare():
            for hand in HANDS:
                plain = PlainRooms(board, hand)
                names = plain.standing()
                many += len(names) > 0
                self.assertEqual(standing(board, hand), names)
                self.assertEqual(standing_plain(board, hand), names)
                self.assertIs(is_good_family(board, hand, names), True)
                self.assertEqual(standing_both(board)[hand], names)
                for name, places in plain.companies.items():
                    self.assertIs(stands(board, places[-1]), name in names)
        self.assertGreater(many, 100)

    def test_standing_both(self):
        self.assertEqual(standing_both(board=Board(FIVE, ".d.ll")), {"dark": ["b"], "light": []})
        self.assertEqual(standing_both(empty_board(FIVE)), {"dark": [], "light": []})
        self.assertEqual(standing_both(Board(TWO_COMBS, "d...........l...")), {"dark": [], "light": []})

    def test_good_families(self):
        for board in boards_to_compare():
            for hand in HANDS:
                plain = PlainRooms(board, hand)
                for family in subsets(list(plain.companies)):
                    names = list(reversed(family))
                    self.assertIs(is_good_family(board, hand, names), plain.is_good(family))

    def test_unions_of_good_families_are_good(self):
        board = Board(Web(["a", "b", "c", "f", "g", "h"], [("a", "b"), ("b", "c"), ("f", "g"), ("g", "h")]), ".d..d.")
        for family in ([], ["b"], ["g"], ["b", "g"], ["g", "b"]):
            self.assertIs(is_good_family(board, "dark", family), True)
        self.assertEqual(standing(board, "dark"), ["b", "g"])

    def test_names_that_make_no_good_family(self):
        board = Board(path_web("abcde"), ".d.d.")
        for names in (["b"], ["d"], ["b", "b"], ["b", "d", "b"], ["b", "d", "a"], ["b", "d", "z"], [""], ["-", "b"]):
            self.assertIs(is_good_family(board=board, hand="dark", names=names), False)
            self.assertIs(is_good_family(board, "light", names), False)
        # c is a place of the company b, but not its name.
        long = Board(path_web("abcdef"), ".dd.d.")
        self.assertIs(is_good_family(long, "dark", ["b", "e"]), True)
        self.assertIs(is_good_family(long, "dark", ["c", "e"]), False)
        self.assertIs(is_good_family(long, "dark", []), True)

    def test_standing_plain_of_many_companies(self):
        web = Web(["m"] + ["p" + str(k) for k in range(9)], [("m", "p" + str(k)) for k in range(9)])
        nine, eight = Board(web, "." + "d" * 9), Board(web, "." + "d" * 8 + ".")
        self.assertEqual(standing_plain(eight, "dark"), [])
        self.refused(TooMany("companies", 8), standing_plain, nine, "dark")
        self.assertEqual(standing_plain(nine, "light"), [])
        wrong = Board(Web(["m"] + ["p" + str(k) for k in range(9)], []), "l" + "d" * 9)
        self.refused(TooMany("companies", 8), standing_plain, wrong, "dark")
        self.refused(NotRight("m"), standing_plain, wrong, "light")
        self.refused(NoHand("x"), standing_plain, wrong, "x")
        self.refused(NoHand("x"), standing_plain, nine, "x")
        self.assertEqual(standing(nine, "dark"), [])

    def test_standing_plain_of_eight_companies_that_stand(self):
        # Eight paths of three places side by side would be 24 places; a ring shares the rooms.
        names = [letter + str(k) for letter in "ab" for k in range(8)]
        ring = [name for k in range(8) for name in ("a" + str(k), "b" + str(k))]
        board = Board(Web(names, list(zip(ring, ring[1:])) + [(ring[-1], ring[0])]), "d" * 8 + "." * 8)
        self.assertEqual(standing_plain(board, "dark"), names[:8])
        self.assertEqual(standing(board, "dark"), names[:8])


class TestRounds(Case):
    def test_all_rounds_are_as_the_point_says(self):
        for board in boards_to_compare():
            for hand in HANDS:
                plain = PlainRooms(board, hand)
                rounds = plain.rounds()
                self.assertEqual(rounds_of(board, hand), rounds)
                self.assertEqual(out_order(board, hand), [name for out, _ in rounds for name in out])
                rank_of = {name: 0 for name in plain.companies}
                rank_of.update({name: k + 1 for k, (out, _) in enumerate(rounds) for name in out})
                self.assertEqual(ranks(board, hand), rank_of)
                self.assertLessEqual(len(rounds), len(plain.companies))
                self.check_ranks(plain, rank_of)

    def check_ranks(self, plain, rank_of):
        for name, rank in rank_of.items():
            if rank > 0:
                rooms = [room for room in plain.own[name]
                         if all(rank_of[company] == 0 or rank_of[company] >= rank for company in plain.border[room])]
                self.assertLessEqual(len(rooms), 1)

    def test_a_company_goes_out_in_each_round(self):
        self.assertEqual(rounds_of(LADDER, "dark"),
                         [(["f"], ["e", "g"]), (["d"], ["c"]), (["b"], ["a"])])
        self.assertEqual(out_order(board=LADDER, hand="dark"), ["f", "d", "b"])
        self.assertEqual(ranks(board=LADDER, hand="dark"), {"b": 3, "d": 2, "f": 1})
        self.assertEqual(rounds_of(board=LADDER, hand="light"), [])
        self.assertEqual(ranks(LADDER, "light"), {})
        self.assertEqual(out_order(LADDER, "light"), [])

    def test_companies_go_out_at_once(self):
        board = Board(path_web("abcdefg"), "..d.d..")
        self.assertEqual(rounds_of(board, "dark"), [(["c", "e"], ["a", "d", "f"])])
        self.assertEqual(out_order(board, "dark"), ["c", "e"])

    def test_rooms_without_border_company_stay(self):
        board = Board(Web("abcd", [("a", "b")]), "d...")
        self.assertEqual(rounds_of(board, "dark"), [(["a"], ["b"])])

    def test_no_round(self):
        self.assertEqual(rounds_of(Board(FIVE, ".d.d."), "dark"), [])
        self.assertEqual(rounds_of(empty_board(FIVE), "dark"), [])

    def test_told_lists_are_new(self):
        rounds_of(LADDER, "dark")[0][0].append("x")
        rounds_of(LADDER, "dark").pop()
        out_order(LADDER, "dark").pop()
        ranks(LADDER, "dark")["x"] = 1
        standing_both(LADDER)["dark"].append("x")
        standing(LADDER, "dark").append("x")
        self.assertEqual(rounds_of(LADDER, "dark")[0], (["f"], ["e", "g"]))
        self.assertEqual((out_order(LADDER, "dark"), standing(LADDER, "dark")), (["f", "d", "b"], []))
        self.assertEqual(standing_both(LADDER), {"dark": [], "light": []})
        self.assertEqual(ranks(LADDER, "dark"), {"b": 3, "d": 2, "f": 1})

    def test_kinds_of_values(self):
        told = rounds_of(LADDER, "dark")
        self.assertEqual([kind for row in told for kind in map(type, (row, *row))], [tuple, list, list] * 3)


class TestKeptRoom(Case):
    def test_all_kept_rooms_are_as_the_point_says(self):
        kept = {True: 0, False: 0}
        for board in boards_to_compare():
            for hand in HANDS:
                plain = PlainRooms(board, hand)
                for name, room in plain.kept().items():
                    kept[room is not None] += 1
                    self.assertEqual(kept_room(board, plain.companies[name][-1]), room)
                for name in plain.standing():
                    place = plain.companies[name][-1]
                    self.refused(Stands(place), kept_room, board, place)
        self.assertGreater(min(kept.values()), 100)

    def test_of_the_ladder(self):
        # g is not own to f; e is no kept room of d, since it goes out with f.
        self.assertEqual([kept_room(LADDER, name) for name in "fdb"], ["e", "c", "a"])
        self.assertIsNone(kept_room(board=Board(FIVE, "..d.."), place="c"))
        self.assertEqual(kept_room(Board(FIVE, ".d..."), "b"), "a")

    def test_the_text_that_was_passed_is_told(self):
        board = Board(path_web("abcd"), ".dd.")
        self.refused(Stands("c"), kept_room, board, "c")
        self.refused(Stands("b"), kept_room, board, "b")
        self.refused(NoStone("d"), kept_room, board, "d")


class TestLogs(Case):
    def test_all_right_logs_lead_to_the_standing_companies(self):
        many = 0
        for board in itertools.chain(boards_to_compare(), drawn_boards(tree_web(9), 20, "..dddl")):
            for hand in HANDS:
                plain = PlainRooms(board, hand)
                for log in itertools.islice(plain_logs(plain, set(plain.companies), set(plain.rooms)), 10):
                    many += len(log) > 1
                    self.assertIs(is_log(board, hand, log), True)
                    out = {name for element in log for name in element[0]}
                    self.assertEqual(sorted(set(plain.companies) - out), standing(board, hand))
                    self.check_shorter_logs(board, hand, log)
                self.assertIs(is_log(board, hand, rounds_of(board, hand)), True)
        self.assertGreater(many, 100)

    def check_shorter_logs(self, board, hand, log):
        for at, (out, gone) in enumerate(log):
            self.assertIs(is_log(board, hand, log[:at]), False)
            self.assertIs(is_log(board, hand, log[:at] + [(out, gone[1:])] + log[at + 1:]), not gone)
            self.assertIs(is_log(board, hand, log + [(out, gone)]), False)

    def test_a_log_may_take_out_fewer_than_it_could(self):
        board = Board(path_web("abcdefg"), "..d.d..")
        for log in ([(["c", "e"], ["a", "d", "f"])], [(["c"], ["a", "d"]), (["e"], ["f"])],
                    [(["e"], ["d", "f"]), (["c"], ["a"])]):
            self.assertIs(is_log(board=board, hand="dark", log=log), True)

    def test_each_way_of_being_wrong(self):
        board = Board(path_web("abcdefg"), "..d.d..")
        rooms = ["a", "d", "f"]
        for log in ([], [([], [])], [([], []), (["c", "e"], rooms)], [(["c", "e"], rooms), ([], [])],
                    [(["e", "c"], rooms)], [(["c", "c", "e"], rooms)], [(["c", "e", "e"], rooms)],
                    [(["c", "e"], ["d", "a", "f"])], [(["c", "e"], ["a", "d", "d", "f"])], [(["c", "e"], ["a", "d"])],
                    [(["c", "e"], [])], [(["c"], ["a", "d"])], [(["c"], rooms), (["e"], [])],
                    [(["c"], ["a", "d"]), (["e"], ["d", "f"])], [(["c"], ["a", "d"]), (["c", "e"], ["f"])],
                    [(["c", "z"], rooms)], [(["", "c", "e"], rooms)], [(["a", "c", "e"], rooms)],
                    [(["c", "e"], ["a", "d", "f", "z"])], [(["c", "e"], rooms), (["c"], [])]):
            self.assertIs(is_log(board, "dark", log), False)
        self.assertIs(is_log(board, "light", []), True)
        self.assertIs(is_log(board, "light", [(["c", "e"], rooms)]), False)
        self.assertIs(is_log(Board(FIVE, ".d.d."), "dark", []), True)
        self.assertIs(is_log(Board(FIVE, ".d.d."), "dark", [(["b"], ["a", "c"]), (["d"], ["e"])]), False)
        # b has two own rooms alive until d is out.
        ladder = Board(path_web("abcdefg"), ".d.d...")
        self.assertIs(is_log(ladder, "dark", [(["d"], ["c", "e"]), (["b"], ["a"])]), True)
        self.assertIs(is_log(ladder, "dark", [(["b", "d"], ["a", "c", "e"])]), False)
        self.assertIs(is_log(ladder, "dark", [(["b"], ["a", "c"]), (["d"], ["e"])]), False)
        # f is no name, since the company is called e.
        self.assertIs(is_log(Board(path_web("abcdefg"), "....dd."), "dark", [(["f"], ["a", "g"])]), False)

    def test_the_log_stays(self):
        log = [(["c"], ["a", "d"]), (["e"], ["f"])]
        is_log(Board(path_web("abcdefg"), "..d.d.."), "dark", log)
        self.assertEqual(log, [(["c"], ["a", "d"]), (["e"], ["f"])])


class TestErrors(Case):
    def test_the_order_of_the_errors(self):
        right = Board(FIVE, ".d.d.")
        calls = (rounds_of, standing, out_order, ranks, standing_plain)
        for call in calls:
            self.refused(NoHand("x"), call, WRONG, "x")
            self.refused(NoHand("Dark"), call, right, "Dark")
            self.refused(NotRight("a"), call, WRONG, "light")
        for call, given in ((is_log, [(["z"], [])]), (is_good_family, ["z", "z"])):
            self.refused(NoHand("x"), call, WRONG, "x", given)
            self.refused(NotRight("a"), call, WRONG, "dark", given)
            self.refused(NotRight("a"), call, WRONG, "dark", [])
        self.refused(NotRight("a"), standing_both, WRONG)
        for call in (stands, kept_room):
            for place in ("z", "", "-"):
                self.refused(NoPlace(place), call, WRONG, place)
                self.refused(NoPlace(place), call, right, place)
            self.refused(NotRight("a"), call, WRONG, "c")
            self.refused(NotRight("a"), call, WRONG, "a")
            self.refused(NoStone("c"), call, right, "c")

    def test_by_name(self):
        right = Board(FIVE, ".d.d.")
        self.assertEqual(standing(board=right, hand="dark"), ["b", "d"])
        self.assertEqual(standing_plain(board=right, hand="dark"), ["b", "d"])
        self.assertIs(stands(board=right, place="d"), True)

    def test_the_mirrored_board(self):
        for board in itertools.chain(boards_to_compare(), drawn_boards(grid_web(4, 5), 20, "..ddl")):
            for call in (rounds_of, standing, out_order, ranks):
                self.assertEqual(call(board, "dark"), call(-board, "light"))
                self.assertEqual(call(board, "light"), call(-board, "dark"))
            mirrored = standing_both(-board)
            self.assertEqual(standing_both(board), {"dark": mirrored["light"], "light": mirrored["dark"]})


if __name__ == "__main__":
    unittest.main()
