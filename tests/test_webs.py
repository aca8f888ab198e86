"""Points [3], [5], [7] and [9] to [12]: webs, their parts, borders and distances, and their text form."""

import itertools
import unittest

from helper import (Case, all_webs, grid_web, path_web, plain_border, plain_distances, plain_near, plain_parts,
                    ring_web, subsets)
from tworooms.boards import Board
from tworooms.errors import BadName, BadNumber, BadText, NoPlace, Repeated, SelfTie, TooMany
from tworooms.names import MOST_PLACES
from tworooms.webs import Web, read_web, write_web

TWENTY = ["p" + str(k) for k in range(20)]
MANY_PAIRS = list(itertools.combinations(sorted(TWENTY), 2))


class TestMaking(Case):
    def test_places_and_ties_are_ascending(self):
        web = Web(["b", "a10", "c", "a2", "a"], [("c", "b"), ("b", "a2"), ("a", "a10"), ("a", "c")])
        self.assertEqual(web.places, ["a", "a10", "a2", "b", "c"])
        self.assertEqual(web.ties, [("a", "a10"), ("a", "c"), ("a2", "b"), ("b", "c")])
        self.assertEqual([type(pair) for pair in web.ties], [tuple] * 4)

    def test_parameters_by_name(self):
        self.assertEqual(Web(places=["b", "a"], ties=[("b", "a")]), Web(["a", "b"], [("a", "b")]))

    def test_ties_are_ordered_as_pairs(self):
        web = Web(["a", "a1", "b", "c"], [("a1", "b"), ("a", "c"), ("a", "b")])
        self.assertEqual(web.ties, [("a", "b"), ("a", "c"), ("a1", "b")])

    def test_one_and_twenty_places(self):
        self.assertEqual(Web(["a"], []).places, ["a"])
        self.assertEqual(len(Web(TWENTY, [])), 20)

    def test_no_place(self):
        self.refused(BadNumber("places", 0), Web, [], [])
        self.refused(BadNumber("places", 0), Web, [], [("a", "a")])
        self.refused(BadNumber("places", 0), Web, [], [("a", "b")] * 61)

    def test_bad_names(self):
        self.refused(BadName("A"), Web, ["a", "A", "1"], [])
        self.refused(BadName(""), Web, ["a", "", "A"], [])
        self.refused(BadName("abcdefg"), Web, ["abcdefg"], [])
        self.refused(BadName("-"), Web, ["a", "-"], [("a", "-")])
        self.refused(BadName("a\n"), Web, ["a\n"], [])

    def test_too_many(self):
        self.refused(TooMany("places", 20), Web, TWENTY + ["q"], [])
        self.refused(TooMany("places", 20), Web, ["a"] * 21, [])
        self.refused(TooMany("ties", 60), Web, TWENTY, MANY_PAIRS[:61])
        self.refused(TooMany("ties", 60), Web, ["a"], [("a", "a")] * 61)
        self.refused(TooMany("ties", 60), Web, ["a", "b"], [("a", "b")] * 61)
        self.refused(TooMany("places", 20), Web, ["a"] * 21, [("a", "a")] * 61)
        self.assertEqual(Web(TWENTY, MANY_PAIRS[:60]).ties, MANY_PAIRS[:60])
        self.refused(Repeated("a"), Web, ["a"] * 20, [])
        self.refused(Repeated("a-b"), Web, ["a", "b"], [("a", "b")] * 60)

    def test_ties_with_no_place(self):
        self.refused(NoPlace("c"), Web, ["a", "b"], [("a", "b"), ("a", "c"), ("d", "a")])
        self.refused(NoPlace("d"), Web, ["a", "b"], [("d", "c")])
        self.refused(NoPlace("d"), Web, ["a", "b"], [("d", "a")])
        self.refused(NoPlace("c"), Web, ["a", "b"], [("c", "c")])
        self.refused(NoPlace("-"), Web, ["a", "b"], [("a", "-")])
        self.refused(NoPlace(""), Web, ["a", "b"], [("", "b")])

    def test_self_ties(self):
        self.refused(SelfTie("b"), Web, ["a", "b"], [("a", "b"), ("b", "b"), ("a", "a")])

    def test_repetitions(self):
        self.refused(Repeated("b"), Web, ["c", "b", "a", "b", "c"], [])
        self.refused(Repeated("a"), Web, ["a", "a", "b", "b"], [("a", "b"), ("a", "b")])
        self.refused(Repeated("a-b"), Web, ["a", "b"], [("b", "a"), ("b", "a")])
        self.refused(Repeated("a-b"), Web, ["a", "b", "c"], [("b", "c"), ("a", "b"), ("b", "a"), ("c", "b")])

    def test_the_order_of_the_errors(self):
        places = ["a", "a", "B"]
        ties = [("a", "a"), ("a", "z"), ("a", "b"), ("b", "a")]
        self.refused(BadName("B"), Web, places + ["c"] * 20, ties * 20)
        self.refused(TooMany("places", 20), Web, ["a"] * 21, ties * 20)
        self.refused(TooMany("ties", 60), Web, ["a"] * 20, ties * 20)
        self.refused(NoPlace("z"), Web, ["a", "a", "b"], ties)
        self.refused(SelfTie("a"), Web, ["a", "a", "b", "z"], ties)
        self.refused(Repeated("a"), Web, ["a", "a", "b", "z"], ties[1:])
        self.refused(Repeated("a-b"), Web, ["a", "b", "z"], ties[1:])

    def test_arguments_stay_and_later_changes_do_nothing(self):
        places = ["c", "a", "b"]
        ties = [("c", "a")]
        web = Web(places, ties)
        self.assertEqual((places, ties), (["c", "a", "b"], [("c", "a")]))
        places.append("d")
        ties.append(("a", "b"))
        self.assertEqual((web.places, web.ties), (["a", "b", "c"], [("a", "c")]))
        self.assertEqual(web.near("a"), ["c"])

    def test_told_lists_are_new(self):
        web = path_web("abc")
        within = ["c", "b"]
        for call in (lambda: web.places, lambda: web.ties, lambda: web.near("b"), lambda: web.part("b", within),
                     lambda: web.parts(within), lambda: web.border(within), web.pieces, web.lone, lambda: list(web)):
            first = call()
            kept = list(first)
            first.append("x")
            first.reverse()
            self.assertEqual(call(), kept)
        web.pieces()[0].append("x")
        web.parts(within)[0].append("x")
        self.assertEqual((web.pieces(), web.parts(within)), ([["a", "b", "c"]], [["b", "c"]]))
        self.assertEqual((web.places, web.near("b"), len(web)), (["a", "b", "c"], ["a", "c"], 3))
        self.assertEqual(within, ["c", "b"])


class TestReading(Case):
    def test_near_and_tied(self):
        for web in all_webs("abcd"):
            near = plain_near(web)
            for one in web.places:
                self.assertEqual(web.near(one), sorted(near[one]))
                for two in web.places:
                    self.assertIs(web.tied(one, two), two in near[one])

    def test_parts_borders_distances(self):
        for web in all_webs("abcd"):
            for within in subsets("abcd"):
                parts = plain_parts(web, within)
                steps = plain_distances(web, within)
                self.assertEqual(web.parts(list(within)), parts)
                self.assertEqual(web.border(list(within)), plain_border(web, within))
                for one in "abcd":
                    part = [part for part in parts if one in part]
                    self.assertEqual(web.part(one, list(within)), part[0] if part else [])
                    for two in "abcd":
                        found = web.distance(one, two, list(within))
                        self.assertEqual(found, steps.get((one, two)))
                        self.assertIn(type(found), (int, type(None)))

    def test_larger_webs(self):
        for web in (grid_web(4, 5), ring_web(TWENTY), path_web(TWENTY)):
            for step in (1, 2, 3, 7):
                within = web.places[::step][::-1]
                steps = plain_distances(web, within)
                self.assertEqual(web.parts(within), plain_parts(web, within))
                self.assertEqual(web.border(within), plain_border(web, within))
                for one, two in itertools.product(web.places[::3], web.places):
                    self.assertEqual(web.distance(one, two, within), steps.get((one, two)))

    def test_orders_and_repetitions_of_within(self):
        web = path_web("abcde")
        for within in itertools.product("abd", repeat=4):
            plain = sorted(set(within))
            self.assertEqual(web.parts(list(within)), web.parts(plain))
            self.assertEqual(web.border(list(within)), web.border(plain))
            self.assertEqual(web.part("a", list(within)), web.part("a", plain))
            self.assertEqual(web.distance("a", "b", list(within)), web.distance("a", "b", plain))

    def test_the_empty_set(self):
        web = path_web("ab")
        self.assertEqual(web.part("a", []), [])
        self.assertEqual(web.parts([]), [])
        self.assertEqual(web.border([]), [])
        self.assertIsNone(web.distance("a", "a", []))

    def test_by_name(self):
        web = path_web("abcd")
        self.assertEqual(web.near(place="b"), ["a", "c"])
        self.assertIs(web.tied(one="a", two="b"), True)
        self.assertEqual(web.part(place="b", within=["a", "b", "d"]), ["a", "b"])
        self.assertEqual(web.parts(within=["d", "a", "c"]), [["a"], ["c", "d"]])
        self.assertEqual(web.border(within=["b"]), ["a", "c"])
        self.assertEqual(web.distance(one="a", two="c", within=["a", "b", "c"]), 2)

    def test_pieces_and_lone(self):
        web = Web(["e", "d", "c", "b", "a"], [("a", "d"), ("b", "e")])
        self.assertEqual(web.pieces(), [["a", "d"], ["b", "e"], ["c"]])
        self.assertEqual(web.lone(), ["c"])
        for web in all_webs("abcd"):
            self.assertEqual(web.pieces(), plain_parts(web, "abcd"))
            self.assertEqual(web.lone(), [place for place, near in plain_near(web).items() if not near])

    def test_no_place(self):
        web = path_web("abc")
        for text in ["d", "", "A", "-", "a ", "ab", "\n"]:
            self.refused(NoPlace(text), web.near, text)
            self.refused(NoPlace(text), web.tied, text, "a")
            self.refused(NoPlace(text), web.tied, "a", text)
            self.refused(NoPlace(text), web.part, text, ["a"])
            self.refused(NoPlace(text), web.part, "a", ["b", text])
            self.refused(NoPlace(text), web.parts, ["a", text, "z"])
            self.refused(NoPlace(text), web.border, ["a", text, "z"])
            self.refused(NoPlace(text), web.distance, text, "a", ["a"])
            self.refused(NoPlace(text), web.distance, "a", text, ["a"])
            self.refused(NoPlace(text), web.distance, "a", "a", ["b", text])

    def test_the_leftmost_no_place(self):
        web = path_web("abc")
        self.refused(NoPlace("x"), web.tied, "x", "y")
        self.refused(NoPlace("x"), web.part, "x", ["y", "z"])
        self.refused(NoPlace("y"), web.part, "a", ["y", "z"])
        self.refused(NoPlace("x"), web.distance, "x", "y", ["z"])
        self.refused(NoPlace("y"), web.distance, "a", "y", ["z"])
        self.refused(NoPlace("z"), web.distance, "a", "b", ["z", "x"])
        self.refused(NoPlace("z"), web.border, ["z", "x"])
        self.refused(NoPlace("x"), web.parts, ["b", "x", "z"])

    def test_len_iteration_and_in(self):
        web = Web(["c", "a", "b"], [])
        self.assertEqual(len(web), 3)
        self.assertEqual(list(web), ["a", "b", "c"])
        self.assertEqual([place for place in web], ["a", "b", "c"])
        for place in "abc":
            self.assertIs(place in web, True)
        for text in ["d", "", "ab", "A", "-", "places", "a "]:
            self.assertIs(text in web, False)

    def test_equality(self):
        web = Web(["a", "b", "c"], [("a", "b"), ("b", "c")])
        self.assertTrue(web == Web(["c", "b", "a"], [("c", "b"), ("b", "a")]))
        self.assertFalse(web != Web(["c", "b", "a"], [("c", "b"), ("b", "a")]))
        for other in (Web(["a", "b", "c"], [("a", "b")]), Web(["a", "b", "c", "d"], [("a", "b"), ("b", "c")]),
                      Web(["a", "b", "c"], [("a", "b"), ("a", "c")]), Board(web, "..."), "places a b c", None, 3,
                      ["a", "b", "c"]):
            self.assertIs(web == other, False)
            self.assertIs(web != other, True)


class TestTextForm(Case):
    def test_the_document_examples(self):
        self.assertEqual(write_web(Web(["b", "a", "c"], [("c", "b")])), "places a b c\nties b-c")
        path = Web(["a", "b", "c", "d"], [("a", "b"), ("b", "c"), ("c", "d")])
        self.assertEqual(path.parts(["d", "a", "c"]), [["a"], ["c", "d"]])

    def test_writing(self):
        self.assertEqual(write_web(Web(["a"], [])), "places a\nties")
        web = Web(["c", "a1", "b", "a"], [("c", "a1"), ("b", "a")])
        self.assertEqual(write_web(web=web), "places a a1 b c\nties a-b a1-c")

    def test_reading_back(self):
        webs = list(all_webs("abcd")) + [grid_web(4, 5), Web(TWENTY, MANY_PAIRS[:60]), Web(["a"], [])]
        for web in webs:
            again = read_web(write_web(web))
            self.assertEqual((again.places, again.ties), (web.places, web.ties))
            self.assertEqual(again, web)
        self.assertEqual(read_web(text="places a\nties"), Web(["a"], []))

    def test_first_wrong_word_of_places(self):
        told = {
            "": (1, 1), " ": (1, 1), "\n": (1, 1), "place a\nties": (1, 1), "Places a\nties": (1, 1),
            " places a\nties": (1, 1), "ties\nplaces a": (1, 1), "places\nties": (1, 2), "places": (1, 2),
            "places \nties": (1, 2), "places  a\nties": (1, 2), "places A\nties": (1, 2), "places a \nties": (1, 3),
            "places a a\nties": (1, 3), "places b a\nties": (1, 3), "places a b b1 1\nties": (1, 5),
            "places abcdefg\nties": (1, 2), "places a10 a2 a1\nties": (1, 4), "places a c b d\nx": (1, 4),
            "places -\nties": (1, 2),
        }
        for text, (line, word) in told.items():
            self.refused(BadText(line, word), read_web, text)

    def test_first_wrong_word_of_ties(self):
        told = {
            "places a": (2, 1), "places a\n": (2, 1), "places a\ntie": (2, 1), "places a\n ties": (2, 1),
            "places a\n\nties": (2, 1), "places a b\nties ": (2, 2), "places a b\nties  a-b": (2, 2),
            "places a b\nties b-a": (2, 2), "places a b\nties a-a": (2, 2), "places a b\nties a-c": (2, 2),
            "places a b\nties c-b": (2, 2), "places a b\nties a": (2, 2), "places a b\nties a-": (2, 2),
            "places a b\nties -b": (2, 2), "places a b\nties -": (2, 2), "places a b\nties a-b-b": (2, 2),
            "places a b\nties a--b": (2, 2), "places a b\nties ab": (2, 2), "places a b\nties a:b": (2, 2),
            "places a b c\nties a-b a-b": (2, 3), "places a b c\nties a-c a-b": (2, 3),
            "places a b c\nties b-c a-c": (2, 3), "places a b c\nties a-b b-c b-c": (2, 4),
            "places a b c\nties a-b ": (2, 3), "places a b c\nties a-b b-c x\nmore": (2, 4),
        }
        for text, (line, word) in told.items():
            self.refused(BadText(line, word), read_web, text)

    def test_lines_behind_the_end(self):
        for text in ["places a\nties\n", "places a\nties\n\n", "places a b\nties a-b\nboard ..", "places a\nties\n "]:
            self.refused(BadText(3, 1), read_web, text)

    def test_the_most_places(self):
        names = sorted(TWENTY)
        self.assertEqual(len(read_web("places " + " ".join(names) + "\nties")), MOST_PLACES)
        self.refused(BadText(1, 22), read_web, "places " + " ".join(names + ["q"]) + "\nties")
        self.refused(BadText(1, 22), read_web, "places " + " ".join(names + ["q", "A"]) + "\nties")
        self.refused(BadText(1, 21), read_web, "places " + " ".join(names[:19] + ["A", "q", "r"]) + "\nties")

    def test_the_most_ties(self):
        head = "places " + " ".join(sorted(TWENTY)) + "\nties "
        words = [one + "-" + two for one, two in MANY_PAIRS]
        self.assertEqual(len(read_web(head + " ".join(words[:60])).ties), 60)
        self.refused(BadText(2, 62), read_web, head + " ".join(words[:61]))
        self.refused(BadText(2, 62), read_web, head + " ".join(words[:63]) + "\n")
        self.refused(BadText(2, 61), read_web, head + " ".join(words[:59] + ["x"] + words[59:]))

    def test_only_written_texts_are_read(self):
        text = "places a b b1\nties a-b b-b1"
        for at in range(len(text) + 1):
            for new in ["", " ", "\n", "a", "b", "-", "1", "s"]:
                for rest in (at, at + 1):
                    changed = text[:at] + new + text[rest:]
                    try:
                        web = read_web(changed)
                    except BadText:
                        continue
                    self.assertEqual(write_web(web), changed)


if __name__ == "__main__":
    unittest.main()
