"""Points [106] and [107]: commands, their answers and refusals, and scripts."""

import itertools
import random
import unittest

from booking import COMMANDS, plain_command_refusal
from helper import Case, path_web
from tworooms.boards import Board
from tworooms.book import Book, decision_row, read_book
from tworooms.counts import score, sure_score
from tworooms.errors import TooMany
from tworooms.games import Game
from tworooms.player import choose, play_out
from tworooms.rounds import standing
from tworooms.scripts import run_line, run_script

FIVE = path_web("abcde")
ROWS = ["web w a b c d e / a-b b-c c-d d-e", "board p w .d.d.", "board q w .d...", "board wrong w dl.d.",
        "board empty w .....", "game g empty dark", "game h p light", "game over empty dark", "play over -",
        "play over -", "play g b", "paper sp p b stands b:a:c d:c:e"]
WORDS = ["", "-", "a", "b", "z", "w", "p", "q", "g", "over", "wrong", "sp", "new", "dark", "light", "Dark", "0", "1",
         "60", "61", "00", "01", "+1", "-1", "1.", "x", "A", "abcdefg", "9" * 21, "1" * 20]


def book_of(rows):
    """The book with these rows."""
    book = Book()
    for row in rows:
        book.enter(row)
    return book


def full_book(many=60):
    """A book with so many rows, beginning with those above."""
    return book_of(ROWS + [f"web x{k} a /" for k in range(many - len(ROWS))])


class ScriptCase(Case):
    def check_refusal(self, book, line):
        """The command is refused as the plain way says, or not at all; a refused one changes nothing."""
        refusal = plain_command_refusal(book, line)
        before = list(book)
        answer = run_line(book, line)
        if refusal is None:
            self.assertFalse(answer.startswith("refused"), (line, answer))
        else:
            self.assertEqual(answer, f"refused {refusal[0]} {refusal[1]}", line)
            self.assertEqual(list(book), before)
        return answer


class TestCommands(ScriptCase):
    def test_the_document_example(self):
        text = "web w a b / a-b\nboard p w d.\ndecide q p a\nscore p\nstanding p dark"
        answers, book = run_script(text=text)
        self.assertEqual(answers, ["ok", "ok", "falls", "2 0 0", "none"])
        self.assertEqual(list(book), ["web w a b / a-b", "board p w d.", "paper q p a falls b"])

    def test_rows(self):
        book = Book()
        for row in ROWS:
            self.assertEqual(run_line(book=book, line=row), "ok")
        self.assertEqual(book, book_of(ROWS))
        for line, answer in (("play g b", "refused 3 wrong"), ("web w a /", "refused 2 used"),
                             ("web", "refused 2 form"), ("board new p ....", "refused 3 missing"),
                             ("game new wrong dark", "refused 3 wrong"),
                             ("paper new p b stands b:a:c", "refused 5 wrong"), ("play g - -", "refused 4 form")):
            self.assertEqual(run_line(book, line), answer)
        self.assertEqual(book, book_of(ROWS))

    def test_words_that_are_no_command(self):
        for line in ("", " ", "x", "Undo", "undo.", " undo", "stand p dark", "full", "ok", "score\\", "-"):
            self.assertEqual(run_line(book_of(ROWS), line), "refused 1 form")
            self.assertEqual(run_line(full_book(), line), "refused 1 form")

    def test_undo(self):
        book = book_of(ROWS)
        self.assertEqual(run_line(book, "undo x"), "refused 2 form")
        self.assertEqual(run_line(book, "undo "), "refused 2 form")
        self.assertEqual(book, book_of(ROWS))
        for many in reversed(range(len(ROWS))):
            self.assertEqual(run_line(book, "undo"), "ok")
            self.assertEqual(book, book_of(ROWS[:many]))
        for line in ("undo", "undo x", "undo ", "undo x y"):
            self.assertEqual(run_line(book, line), "refused 1 missing")
        book = full_book()
        self.assertEqual((run_line(book, "undo"), len(book)), ("ok", 59))

    def test_decide(self):
        book = book_of(ROWS)
        for line, answer in (("decide n1 p d", "stands"), ("decide n2 q b", "falls")):
            row = decision_row(book, line.split(" ")[1], *line.split(" ")[2:])
            self.assertEqual(run_line(book, line), answer)
            self.assertEqual(list(book)[-1], row)
        self.assertEqual(book.paper_at("n1"), ("p", "d", "stands", [("b", "a", "c"), ("d", "c", "e")]))
        self.assertEqual(book.paper_at("n2"), ("q", "b", "falls", ["c", "a"]))
        self.assertEqual(run_line(book, "decide n1 p d"), "refused 2 used")
        book = full_book()
        for line in ("decide new p b", "decide", "decide sp", "decide new z x y", "decide "):
            self.assertEqual(run_line(book, line), "refused 1 full")
        book.undo()
        self.assertEqual((run_line(book, "decide new p b"), len(book)), ("stands", 60))

    def test_told_answers(self):
        book = book_of(ROWS)
        for name in ("p", "q", "empty"):
            board = book.board_at(name)
            for hand in ("dark", "light"):
                self.assertEqual(run_line(book, f"standing {name} {hand}"), " ".join(standing(board, hand)) or "none")
            self.assertEqual(run_line(book, f"score {name}"), "{} {} {}".format(*score(board)))
            self.assertEqual(run_line(book, f"sure {name}"), "{} {} {}".format(*sure_score(board)))
        self.assertEqual(run_line(book, "standing p dark"), "b d")
        self.assertEqual(run_line(book, "standing p light"), "none")
        self.assertEqual(run_line(book, "sure p"), "5 0 0")
        self.assertEqual(run_line(book, "score wrong"), "3 1 1")
        self.assertEqual(run_line(book, "score p"), "5 0 0")
        self.assertEqual([run_line(book, "turn " + name) for name in ("g", "h", "over")], ["light", "light", "over"])
        self.assertEqual([run_line(book, "show " + name) for name in ("g", "h", "over")], [".d...", ".d.d.", "....."])
        self.assertEqual(book, book_of(ROWS))

    def test_auto(self):
        for line, most in (("auto g 0", 0), ("auto g 1", 1), ("auto g 3", 3), ("auto g 60", 60), ("auto h 60", 60)):
            book = book_of(ROWS)
            game = book.game_of(line.split(" ")[1])
            told = play_out(game, most=most)
            added = len(told) - len(game)
            self.assertEqual(run_line(book, line), f"played {added}")
            deeds = [f"play {line.split(' ')[1]} {deed}" for deed in told.deeds[len(game):]]
            self.assertEqual(list(book), ROWS + deeds)
            self.assertEqual(book.game_of(line.split(" ")[1]), told)
        book = book_of(ROWS)
        for most in (0, 1, 60):
            self.assertEqual(run_line(book, f"auto over {most}"), "played 0")
        for line, answer in (("auto", "refused 2 form"), ("auto G", "refused 2 form"),
                             ("auto p 1", "refused 2 missing"), ("auto z 61", "refused 2 missing"),
                             ("auto g", "refused 3 form"),
                             ("auto g 61", "refused 3 form"), ("auto g 00", "refused 3 form"),
                             ("auto g 01", "refused 3 form"), ("auto g x", "refused 3 form"),
                             ("auto g -1", "refused 3 form"), ("auto g ", "refused 3 form"),
                             ("auto g 1 ", "refused 4 form"), ("auto g 1 2", "refused 4 form"),
                             ("auto over 61", "refused 3 form"), ("auto g " + "1" * 21, "refused 3 form")):
            self.assertEqual(run_line(book, line), answer)
        self.assertEqual(book, book_of(ROWS))

    def test_auto_in_a_book_that_is_nearly_full(self):
        book = full_book(59)
        deed = choose(book.game_of("g"))
        self.assertEqual((run_line(book, "auto g 60"), len(book)), ("played 1", 60))
        self.assertEqual(list(book)[-1], f"play g {deed}")
        for most in (0, 1, 60):
            self.assertEqual(run_line(book, f"auto g {most}"), "played 0")
        for line, answer in (("auto g 61", "refused 3 form"), ("auto g", "refused 3 form"),
                             ("auto z 1", "refused 2 missing"), ("auto g 1 1", "refused 4 form"),
                             ("auto", "refused 2 form")):
            self.assertEqual(run_line(book, line), answer)
        self.assertEqual(len(book), 60)

    def test_a_full_book(self):
        book = full_book()
        for line in ("web new a /", "web", "board", "game x", "play g -", "paper", "decide", "decide new p b x"):
            self.assertEqual(run_line(book, line), "refused 1 full")
        self.assertEqual(run_line(book, "score p"), "5 0 0")
        self.assertEqual(run_line(book, "turn g"), "light")
        self.assertEqual(run_line(book, "standing z dark"), "refused 2 missing")

    def test_each_word_of_each_command(self):
        told, drawn = {}, random.Random(9)
        good = ["decide new p b", "standing p dark", "score wrong", "sure q", "turn g", "show over", "auto g 2", "undo"]
        books = [book_of(ROWS), full_book(), full_book(59)]
        lines = [" ".join(line.split(" ")[:many]) for line in good for many in range(1, 5)]
        for line in good:
            words = line.split(" ")
            for at, word in itertools.product(range(len(words) + 1), WORDS):
                lines += [" ".join(words[:at] + [word] + words[at + 1:]), " ".join(words[:at] + [word] + words[at:])]
        for line in lines:
            words = line.split(" ")
            for _ in range(2):
                more = list(words)
                more[drawn.randrange(len(more))] = drawn.choice(WORDS)
                lines_here = {line, " ".join(more)}
                for text, book in itertools.product(lines_here, books):
                    word = self.check_refusal(book.twin(), text).split(" ")[-1]
                    told[word] = told.get(word, 0) + 1
        for reason in ("form", "used", "missing", "wrong", "full"):
            self.assertGreater(told[reason], 20, told)
        self.assertEqual(set(COMMANDS), {line.split(" ")[0] for line in good})

    def test_each_refusal_by_hand(self):
        cases = {
            "decide": "2 form", "decide -": "2 form", "decide p": "2 used", "decide new": "3 form",
            "decide new -": "3 form", "decide new w b": "3 missing", "decide new z": "3 missing",
            "decide new wrong": "3 wrong", "decide new wrong zz x": "3 wrong", "decide new p": "4 form",
            "decide new p B": "4 form", "decide new p a": "4 wrong", "decide new p z": "4 wrong",
            "decide new p a x": "4 wrong", "decide new p b x": "5 form", "decide new p b ": "5 form",
            "standing": "2 form", "standing P dark": "2 form", "standing w dark": "2 missing",
            "standing z x": "2 missing", "standing wrong": "2 wrong", "standing wrong x y": "2 wrong",
            "standing p": "3 form", "standing p Dark": "3 form", "standing p dark x": "4 form", "score": "2 form",
            "score ": "2 form", "score g": "2 missing", "score p x": "3 form", "score wrong x": "3 form",
            "sure": "2 form", "sure sp": "2 missing", "sure wrong": "2 wrong", "sure wrong x": "2 wrong",
            "sure p ": "3 form", "turn": "2 form", "turn p": "2 missing", "turn g x": "3 form", "turn -": "2 form",
            "show": "2 form", "show w": "2 missing", "show g ": "3 form",
        }
        book = book_of(ROWS)
        for line, told in cases.items():
            self.assertEqual(run_line(book, line), "refused " + told, line)
            self.assertEqual(self.check_refusal(book, line), "refused " + told)
        self.assertEqual(book, book_of(ROWS))


class TestScripts(ScriptCase):
    def test_a_script_goes_on_after_a_refused_line(self):
        text = "\n".join(["undo", "web w a b c / a-b b-c", "web w a /", "board p w .d.", "game g p light", "auto g 5",
                          "turn g", "show g", "nothing", "undo", "turn g", "decide d p b", "standing p dark", "sure p"])
        answers, book = run_script(text)
        self.assertEqual(answers, ["refused 1 missing", "ok", "refused 2 used", "ok", "ok", "played 2", "over", ".d.",
                                   "refused 1 form", "ok", "dark", "stands", "b", "3 0 0"])
        self.assertEqual(list(book), ["web w a b c / a-b b-c", "board p w .d.", "game g p light", "play g -",
                                      "paper d p b stands b:a:c"])
        self.assertEqual(read_book("\n".join(list(book))), book)

    def test_a_script_is_its_lines(self):
        drawn = random.Random(21)
        lines = ROWS + ["undo", "decide n1 p b", "decide n2 q b", "auto g 3", "auto h 60", "turn g", "show h",
                        "score q", "sure empty", "standing p dark", "play g c", "play h -", "x", "", "undo x"]
        for _ in range(60):
            script = ROWS[:drawn.randrange(len(ROWS) + 1)] + drawn.choices(lines, k=drawn.randrange(30))
            book = Book()
            told = [run_line(book, line) for line in script]
            self.assertEqual(run_script("\n".join(script)), ((told, book) if script else (["refused 1 form"], book)))

    def test_the_empty_text_and_newlines(self):
        self.assertEqual(run_script(""), (["refused 1 form"], Book()))
        self.assertEqual(run_script("\n"), (["refused 1 form"] * 2, Book()))
        self.assertEqual(run_script("web w a /\n"), (["ok", "refused 1 form"], book_of(["web w a /"])))

    def test_sixty_lines(self):
        lines = ["web w a /"] + ["undo", "web w a /"] * 29 + ["undo"]
        answers, book = run_script("\n".join(lines))
        self.assertEqual((len(answers), set(answers), len(book)), (60, {"ok"}, 0))
        for text in ("\n".join(lines) + "\n", "\n".join(lines + ["undo"]), "\n" * 60, "\n" * 100):
            self.refused(TooMany("lines", 60), run_script, text)
        self.assertEqual(len(run_script("\n" * 59)[0]), 60)
        rows = [f"web x{k} a /" for k in range(60)]
        answers, book = run_script("\n".join(rows))
        self.assertEqual((set(answers), len(book)), ({"ok"}, 60))

    def test_told_lists_and_books_are_new(self):
        text = "\n".join(ROWS)
        answers, book = run_script(text)
        answers.append("x")
        book.undo()
        self.assertEqual(run_script(text), (["ok"] * len(ROWS), book_of(ROWS)))
        self.assertEqual(Game(Board(FIVE, "....."), "dark").turn, "dark")


if __name__ == "__main__":
    unittest.main()
