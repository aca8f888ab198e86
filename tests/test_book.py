"""Points [102] to [105]: books, their rows and refusals, undo, replaying, the text form, the audit."""

import itertools
import random
import unittest

from booking import plain_refusal
from helper import Case, drawn_boards, path_web, tree_web
from tworooms.boards import Board
from tworooms.book import Book, audit, decision_row, first_difference, read_book, write_book
from tworooms.errors import BadRow, BadText, NoEntry, NoPlace, NoStone, NothingDone, NotRight
from tworooms.games import Game
from tworooms.papers import stand_paper
from tworooms.records import replay
from tworooms.takings import decide
from tworooms.webs import Web

FIVE = path_web("abcde")
ROWS = [
    "web w a b c d e / a-b b-c c-d d-e",
    "web one a /",
    "web two a b / a-b",
    "board p w .d.d.",
    "board q w .d...",
    "board wrong w dl.d.",
    "board empty w .....",
    "game g empty dark",
    "game h p light",
    "play g b",
    "play g d",
    "play g -",
    "paper sp p b stands b:a:c d:c:e",
    "paper fp q b falls d c a",
]
# At least one word of each kind that is refused somewhere: no form, used, missing, wrong.
WORDS = ["", "-", "/", "a", "b", "c", "z", "w", "p", "q", "g", "sp", "new", "wrong", "dark", "light", "stands", "falls",
         "A", "1a", "abcdefg", "a-b", "b-a", "a-a", "a-z", "a-b-c", ".....", "d....", ".d.x.", "....", "......", "l",
         "d", "b:a:c", "b:c:a", "b:a", "b:a:c:d", ":a:c", "b:a:z", "b::c", "Dark", "play", "web", "a\n", "\n", "b\nc"]


def book_of(rows):
    """The book with these rows."""
    book = Book()
    for row in rows:
        book.enter(row)
    return book


def full_book(many=60):
    """A book with so many rows, beginning with those above."""
    return book_of(ROWS + [f"web x{k} a /" for k in range(many - len(ROWS))])


class BookCase(Case):
    def check(self, book, row):
        """The row is accepted or refused as the plain way says, and a refused one changes nothing."""
        before = list(book)
        told = plain_refusal(book, row)
        if told is None:
            self.assertIsNone(book.enter(row))
            self.assertEqual(list(book), before + [row])
        else:
            self.refused(BadRow(*told), book.enter, row)
            self.assertEqual(list(book), before)
        return told

    def check_all(self, rows, book):
        """All rows; an accepted one is taken back again."""
        told = {}
        for row in rows:
            refusal = self.check(book, row)
            if refusal is None:
                self.assertEqual(book.undo(), row)
            reason = refusal and refusal[1]
            told[reason] = told.get(reason, 0) + 1
        return told


class TestRows(BookCase):
    def test_rows_that_are_accepted(self):
        book = Book()
        for at, row in enumerate(ROWS):
            self.assertEqual(len(book), at)
            self.assertIsNone(self.check(book, row))
        self.assertEqual(list(book), ROWS)
        self.assertEqual(book.entries(), sorted(["w", "one", "two", "p", "q", "wrong", "empty", "g", "h", "sp", "fp"]))
        kinds = {"w": "web", "one": "web", "p": "board", "wrong": "board", "g": "game", "sp": "paper", "fp": "paper"}
        for name, kind in kinds.items():
            self.assertEqual(book.entry_kind(name), kind)
        self.assertEqual(book.web_at("w"), FIVE)
        self.assertEqual(book.web_at(name="one"), Web("a", []))
        self.assertEqual(book.board_at(name="p"), Board(FIVE, ".d.d."))
        self.assertEqual(book.board_at("wrong"), Board(FIVE, "dl.d."))
        self.assertEqual(book.game_of(name="g"), replay(Board(FIVE, "....."), "dark", ["b", "d", "-"]))
        self.assertEqual(book.game_of("h"), Game(Board(FIVE, ".d.d."), "light"))
        self.assertEqual(book.paper_at(name="sp"), ("p", "b", "stands", [("b", "a", "c"), ("d", "c", "e")]))
        self.assertEqual(book.paper_at("fp"), ("q", "b", "falls", ["d", "c", "a"]))

    def test_each_word_replaced(self):
        book, told = book_of(ROWS), {}
        for row in ROWS + ["web new a b c / a-b b-c", "board new w d..l.", "game new q light", "play h -", "play g e",
                           "paper new p d stands d:e:c b:a:c", "paper new q b falls c a"]:
            words = row.split(" ")
            for at, word in itertools.product(range(len(words)), WORDS):
                for first in {words[1], "new"} if at != 1 else {words[1]}:
                    changed = [words[0], first, *words[2:]] if words[0] != "play" else list(words)
                    changed[at] = word
                    for reason, many in self.check_all([" ".join(changed)], book).items():
                        told[reason] = told.get(reason, 0) + many
        self.assertGreater(min(told[reason] for reason in (None, "form", "used", "missing", "wrong")), 20, told)

    def test_words_missing_and_surplus(self):
        book = book_of(ROWS)
        rows = ["web new a b c / a-b b-c", "board new w d..l.", "game new q light", "play h -", "play g e",
                "paper new p d stands d:e:c b:a:c", "paper new q b falls c a", "paper new q b falls"]
        for row in rows:
            words = row.split(" ")
            cut = [" ".join(words[:many]) for many in range(len(words) + 1)]
            more = [" ".join(words[:at] + [word] + words[at:]) for at in range(len(words) + 1) for word in WORDS]
            self.check_all(cut + more + [row + " ", " " + row, row.replace(" ", "  ", 1)], book)
        for row in ("", " ", "x", "Web w a /", "web", "undo", "decide new p b", "\n", "web\n"):
            self.check_all([row], book)

    def test_rows_with_two_faults(self):
        book, drawn = book_of(ROWS), random.Random(11)
        rows = [row.split(" ") for row in ROWS + ["web new a b c / a-b b-c", "board new w d..l.", "game new q light",
                                                  "paper new p d stands d:e:c b:a:c", "paper new q b falls c a"]]
        told = {}
        for _ in range(4000):
            words = list(drawn.choice(rows))
            for _ in range(2):
                words[drawn.randrange(len(words))] = drawn.choice(WORDS)
            if drawn.random() < 0.5 and len(words) > 1 and words[0] != "play":
                words[1] = "new"
            for reason, many in self.check_all([" ".join(words)], book).items():
                told[reason] = told.get(reason, 0) + many
        self.assertGreater(min(told[reason] for reason in (None, "form", "used", "missing", "wrong")), 20, told)


class TestRefusals(Case):
    """Each kind of row, refused at each word for each reason that there can be."""

    def told(self, cases, book=None):
        for row, (word, reason) in cases.items():
            self.refused(BadRow(word, reason), (book or book_of(ROWS)).enter, row)

    def test_webs(self):
        places = [f"p{k}" for k in range(10, 31)]
        pairs = [f"{one}-{two}" for one, two in itertools.combinations(places[:12], 2)]
        self.told({
            "web": (2, "form"), "web ": (2, "form"), "web W a /": (2, "form"), "web w\n a /": (2, "form"),
            "web w": (2, "used"), "web g z": (2, "used"), "web sp": (2, "used"), "web new": (3, "form"),
            "web new /": (3, "form"), "web new / a": (3, "form"), "web new a": (4, "form"), "web new a b": (5, "form"),
            "web new a b a /": (5, "form"), "web new a a /": (4, "form"), "web new b a /": (4, "form"),
            "web new a B /": (4, "form"), "web new a  /": (4, "form"), "web new a b / ": (6, "form"),
            "web new a b / /": (6, "form"), "web new a b / b-a": (6, "form"), "web new a b / a-a": (6, "form"),
            "web new a b / a-c": (6, "form"), "web new a b / a-b a-b": (7, "form"), "web new a b / a": (6, "form"),
            "web new a b / a-b-c": (6, "form"), "web new a b / a-b\n": (6, "form"), "web new a\n /": (3, "form"),
            "web new a b c / a-c a-b": (8, "form"), "web new a b /x": (5, "form"), "web new a /\n": (4, "form"),
            "web new " + " ".join(places) + " /": (23, "form"), "web new " + " ".join(places): (23, "form"),
            "web new " + " ".join(places[:20]): (23, "form"),
            "web new " + " ".join(places[:12]) + " / " + " ".join(pairs[:61]): (76, "form"),
        })
        book = Book()
        book.enter("web v " + " ".join(places[:20]) + " / " + " ".join(pairs[:60]))
        self.assertEqual((len(book.web_at("v")), len(book.web_at("v").ties)), (20, 60))

    def test_boards(self):
        self.told({
            "board": (2, "form"), "board -": (2, "form"), "board p": (2, "used"), "board w x y z": (2, "used"),
            "board new": (3, "form"), "board new ": (3, "form"), "board new W .....": (3, "form"),
            "board new z": (3, "missing"), "board new p .....": (3, "missing"), "board new new .....": (3, "missing"),
            "board new w": (4, "form"), "board new w ": (4, "form"), "board new w ...x.": (4, "form"),
            "board new w x": (4, "form"), "board new w .....\n": (4, "form"), "board new w ....": (4, "wrong"),
            "board new w ......": (4, "wrong"), "board new w .... x": (4, "wrong"), "board new w ..... ": (5, "form"),
            "board new w ..... .": (5, "form"), "board new w .d.D.": (4, "form"),
        })

    def test_games(self):
        self.told({
            "game": (2, "form"), "game g": (2, "used"), "game g p dark": (2, "used"), "game 1 p dark": (2, "form"),
            "game new": (3, "form"), "game new - dark": (3, "form"), "game new w dark": (3, "missing"),
            "game new z": (3, "missing"), "game new wrong": (3, "wrong"), "game new wrong x y": (3, "wrong"),
            "game new p": (4, "form"), "game new p Dark": (4, "form"), "game new p d": (4, "form"),
            "game new p dark\n": (4, "form"), "game new p ": (4, "form"), "game new p dark ": (5, "form"),
            "game new p dark x": (5, "form"),
        })

    def test_plays(self):
        self.told({
            "play": (2, "form"), "play ": (2, "form"), "play -": (2, "form"), "play p -": (2, "missing"),
            "play z": (2, "missing"), "play g": (3, "form"), "play g ": (3, "form"), "play g B": (3, "form"),
            "play g --": (3, "form"), "play g -\n": (3, "form"), "play g z": (3, "wrong"), "play g b": (3, "wrong"),
            "play g b x": (3, "wrong"), "play h a": (3, "wrong"), "play g - -": (4, "form"), "play g e ": (4, "form"),
        })
        over = book_of(ROWS + ["play g -"])
        self.told({"play g -": (3, "wrong"), "play g e": (3, "wrong"), "play g - x": (3, "wrong")}, over)
        back = ["web v a b c / a-b b-c", "board e v d.l", "game f e light", "play f b", "play f a"]
        self.assertEqual(book_of(back).game_of("f").fault("c"), "comes-back")
        self.told({"play f c": (3, "wrong")}, book_of(back))

    def test_papers(self):
        self.told({
            "paper": (2, "form"), "paper sp": (2, "used"), "paper sp p b stands": (2, "used"), "paper new": (3, "form"),
            "paper new : b": (3, "form"), "paper new g b": (3, "missing"), "paper new z": (3, "missing"),
            "paper new wrong": (3, "wrong"), "paper new wrong b stands x": (3, "wrong"), "paper new p": (4, "form"),
            "paper new p - stands": (4, "form"), "paper new p a": (4, "wrong"), "paper new p z": (4, "wrong"),
            "paper new p a stands X": (4, "wrong"), "paper new p z falls X": (4, "wrong"),
            "paper new p b": (5, "form"), "paper new p b Stands": (5, "form"), "paper new p b ": (5, "form"),
            "paper new p b stand b:a:c": (5, "form"),
            "paper new p b stands": (5, "wrong"), "paper new p b falls": (5, "wrong"),
            "paper new p b stands b:a:c": (5, "wrong"), "paper new p b stands d:c:e": (5, "wrong"),
            "paper new p b stands d:c:e x": (7, "form"), "paper new p b stands b:a:c d:c:e ": (8, "form"),
            "paper new p b stands b:a:c d:c": (7, "form"), "paper new p b stands b:a:c d:c:e:b": (7, "form"),
            "paper new p b stands b a": (6, "form"), "paper new p b stands b:a:C": (6, "form"),
            "paper new p b stands b:a:z d:c:e": (5, "wrong"), "paper new p b stands z:a:c": (5, "wrong"),
            "paper new p b stands b:a:c d:c:e\n": (7, "form"), "paper new p b falls a c": (5, "wrong"),
            "paper new q b falls": (5, "wrong"), "paper new q b falls a": (5, "wrong"),
            "paper new q b falls d c z": (5, "wrong"), "paper new q b stands": (5, "wrong"),
            "paper new q b falls b:a:c": (6, "form"), "paper new q b falls d c -": (8, "form"),
            "paper new q b falls a -": (7, "form"),
        })

    def test_papers_that_are_no_names(self):
        # Names of other places of the web, of no place, and rooms twice are wrong, not of a bad form.
        self.told({f"paper new p b stands {row} d:c:e": (5, "wrong")
                   for row in ("b:a:a", "b:b:c", "c:a:c", "b:a:e", "zz:a:c", "b:a:zz")})
        book = book_of(ROWS)
        for row in ("paper n1 p b stands d:e:c b:c:a", "paper n2 p d stands b:a:c d:c:e",
                    "paper n3 q b falls d c a e", "paper n4 q b falls e d c a"):
            if plain_refusal(book, row) is None:
                book.enter(row)
        self.assertEqual(book.paper_at("n1"), ("p", "b", "stands", [("d", "e", "c"), ("b", "c", "a")]))

    def test_a_full_book(self):
        book = full_book(59)
        book.enter("web last a /")
        self.assertEqual(len(book), 60)
        self.told({row: (1, "full") for row in ("web new a /", "", "x", "play g -", "play z", "web w a /", "paper",
                                                "board new w .....", "\n", "undo")}, book)
        book.undo()
        self.told({"": (1, "form"), "web w a /": (2, "used")}, book)
        book.enter("play g -")
        self.assertEqual(len(book), 60)


class TestBooks(BookCase):
    def test_undo(self):
        book, states = Book(), []
        for row in ROWS:
            states.append(self.state(book))
            book.enter(row)
        for row in reversed(ROWS):
            self.assertEqual(book.undo(), row)
            self.assertEqual(self.state(book), states.pop())
        self.refused(NothingDone(), book.undo)
        self.assertEqual(book, Book())

    def state(self, book):
        """All that can be asked of a book."""
        told = {"rows": list(book), "many": len(book), "entries": book.entries()}
        for name in book.entries():
            kind = book.entry_kind(name)
            if kind == "game":
                told[name] = kind, book.game_of(name).deeds, book.game_of(name).board.signs
            else:
                thing = {"web": book.web_at, "board": book.board_at, "paper": book.paper_at}[kind](name)
                told[name] = kind, thing if kind == "paper" else getattr(thing, "signs", None)
        return told

    def test_a_name_is_free_again_after_undo(self):
        book = book_of(ROWS[:1])
        book.undo()
        book.enter("web w a b / a-b")
        self.assertEqual(book.web_at("w"), path_web("ab"))
        book = book_of(ROWS)
        for _ in range(3):
            book.undo()
        book.enter("play g a")
        self.assertEqual(book.game_of("g").deeds, ["b", "d", "a"])

    def test_replaying_gives_an_equal_book(self):
        book = book_of(ROWS)
        again = book_of(list(book))
        self.assertEqual(again, book)
        self.assertEqual(self.state(again), self.state(book))
        self.assertIs(book == again, True)
        self.assertIs(book != again, False)
        again.undo()
        self.assertIs(book == again, False)
        self.assertIs(book != again, True)
        for other in (ROWS, None, 0, "", tuple(ROWS), Game(Board(FIVE, "....."), "dark")):
            self.assertIs(book == other, False)
        self.assertIs(Book() == Book(), True)

    def test_kinds_and_names(self):
        book = book_of(ROWS)
        for name in ("z", "", "W", "a b", "-"):
            self.assertIs(name in book, False)
            for ask in (book.entry_kind, book.web_at, book.board_at, book.game_of, book.paper_at):
                self.refused(NoEntry(name), ask, name)
        asks = {"web": book.web_at, "board": book.board_at, "game": book.game_of, "paper": book.paper_at}
        for name in book.entries():
            self.assertIs(name in book, True)
            for kind, ask in asks.items():
                if kind != book.entry_kind(name=name):
                    self.refused(NoEntry(name), ask, name)
        self.assertEqual([row for row in book], ROWS)
        self.assertEqual((len(book), len(Book())), (14, 0))
        self.assertNotIn(ROWS[0], book)

    def test_told_things_are_new(self):
        book = book_of(ROWS)
        book.game_of("g").play("e")
        book.game_of("g").undo()
        self.assertEqual(book.game_of("g").deeds, ["b", "d", "-"])
        book.paper_at("sp")[3].append("x")
        book.paper_at("fp")[3].clear()
        self.assertEqual(book.paper_at("sp")[3], [("b", "a", "c"), ("d", "c", "e")])
        self.assertEqual(book.paper_at("fp")[3], ["d", "c", "a"])
        book.entries().append("x")
        self.assertNotIn("x", book.entries())
        game = book.game_of("g")
        book.enter("play g e")
        self.assertEqual(game.deeds, ["b", "d", "-"])

    def test_twins(self):
        book = book_of(ROWS)
        twin = book.twin()
        self.assertEqual(twin, book)
        self.assertEqual(self.state(twin), self.state(book))
        twin.enter("play g e")
        twin.enter("web new a /")
        self.assertEqual(list(book), ROWS)
        self.assertEqual(book.game_of("g").deeds, ["b", "d", "-"])
        self.assertNotIn("new", book)
        book.undo()
        self.assertIn("fp", twin)
        again = book.twin()
        for _ in range(len(book)):
            book.undo()
        self.assertEqual(again.game_of("g").deeds, ["b", "d", "-"])
        self.assertEqual(Book().twin(), Book())


class TestTextForm(BookCase):
    def test_writing_and_reading(self):
        book = book_of(ROWS)
        self.assertEqual(write_book(book=book), "\n".join(ROWS))
        for many in range(len(ROWS) + 1):
            text = "\n".join(ROWS[:many])
            self.assertEqual(read_book(text=text), book_of(ROWS[:many]))
            self.assertEqual(write_book(read_book(text)), text)
            self.assertIsNone(audit(text=text))
        self.assertEqual(read_book(""), Book())
        self.assertEqual(write_book(Book()), "")
        read_book(ROWS[0]).undo()
        self.assertEqual(len(read_book(ROWS[0])), 1)

    def test_faults(self):
        text = "\n".join(ROWS)
        cases = {"\n": (1, 1, "form"), " ": (1, 1, "form"), "x": (1, 1, "form"), text + "\n": (15, 1, "form"),
                 "\n" + text: (1, 1, "form"), text + "\nplay g b": (15, 3, "wrong"), text + " ": (14, 9, "form"),
                 "\n".join(ROWS[3:]): (1, 3, "missing"), text + "\n" + text: (15, 2, "used"),
                 text.replace("falls d c a", "falls a c d"): (14, 5, "wrong"),
                 text + "\nplay g x\nplay z": (15, 3, "wrong"), "web w": (1, 3, "form")}
        for wrong, (line, word, reason) in cases.items():
            self.refused(BadText(line, word), read_book, wrong)
            self.assertEqual(audit(wrong), (line, word, reason))

    def test_sixty_rows(self):
        text = write_book(full_book())
        self.assertEqual((len(read_book(text)), audit(text)), (60, None))
        for more in ("web new a /", "", "x", "web w a /"):
            self.refused(BadText(61, 1), read_book, text + "\n" + more)
            self.assertEqual(audit(text + "\n" + more), (61, 1, "full"))

    def test_each_line_changed(self):
        drawn = random.Random(5)
        for _ in range(400):
            rows = list(ROWS)
            at = drawn.randrange(len(rows))
            words = rows[at].split(" ")
            words[drawn.randrange(len(words))] = drawn.choice([word for word in WORDS if "\n" not in word])
            rows[at] = " ".join(words)
            book, told = Book(), None
            for line, row in enumerate(rows, 1):
                refusal = plain_refusal(book, row)
                if refusal is not None:
                    told = (line, *refusal)
                    break
                book.enter(row)
            self.assertEqual(audit("\n".join(rows)), told)
            if told is None:
                self.assertEqual(read_book("\n".join(rows)), book)
            else:
                self.refused(BadText(*told[:2]), read_book, "\n".join(rows))

    def test_first_difference(self):
        book = book_of(ROWS)
        self.assertIsNone(first_difference(one=book, two=book.twin()))
        self.assertIsNone(first_difference(Book(), Book()))
        for many in range(len(ROWS)):
            self.assertEqual(first_difference(book, book_of(ROWS[:many])), many)
            self.assertEqual(first_difference(book_of(ROWS[:many]), book), many)
        self.assertEqual(first_difference(book, book_of(ROWS[:2] + ["web two a b /"])), 2)
        self.assertEqual(first_difference(book_of(["web x a /"]), book), 0)


class TestDecisionRows(BookCase):
    def test_all_companies_of_drawn_boards(self):
        told = {"stands": 0, "falls": 0}
        boards = drawn_boards(tree_web(15), 20, "...ddll") + drawn_boards(path_web("abcdefg"), 10, "..dl")
        for board in boards:
            ties = ["-".join(tie) for tie in board.web.ties]
            book = book_of([" ".join(["web w", *board.web.places, "/", *ties]), "board p w " + board.signs])
            for place in board.bearing("d") + board.bearing("l"):
                row = decision_row(book, "n", "p", place)
                word, paper = decide(board, place)
                told[word] += 1
                words = [":".join(part) if word == "stands" else part for part in paper]
                self.assertEqual(row, " ".join(["paper n p", place, word] + words))
                self.assertIsNone(self.check(book, row))
                self.assertEqual(book.paper_at("n"), ("p", place, word, paper))
                book.undo()
        self.assertGreater(min(told.values()), 20)

    def test_any_name(self):
        book = book_of(ROWS)
        self.assertEqual(decision_row(book=book, name="w", board_name="q", place="b"), "paper w q b falls c a")
        self.assertEqual(decision_row(book, "No name\n", "p", "d"), "paper No name\n p d stands b:a:c d:c:e")
        self.assertEqual(decision_row(book, "", "q", "b"), "paper  q b falls c a")
        self.assertEqual(list(book), ROWS)
        self.assertEqual(stand_paper(book.board_at("p"), "dark"), [("b", "a", "c"), ("d", "c", "e")])

    def test_errors(self):
        book = book_of(ROWS)
        for name in ("z", "w", "g", "sp", ""):
            self.refused(NoEntry(name), decision_row, book, "n", name, "zz")
        self.refused(NoPlace("zz"), decision_row, book, "n", "p", "zz")
        self.refused(NoPlace("zz"), decision_row, book, "n", "wrong", "zz")
        self.refused(NotRight("a"), decision_row, book, "n", "wrong", "c")
        self.refused(NoStone("a"), decision_row, book, "n", "p", "a")


if __name__ == "__main__":
    unittest.main()
