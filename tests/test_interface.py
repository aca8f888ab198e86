"""Point [4] and the opening of the interface: names, parameters, and where everything is defined."""

import importlib
import inspect
import unittest

from tworooms import errors

FUNCTIONS = {
    "names": {
        "other_hand": "(hand)", "sign_of": "(hand)", "hand_of": "(sign)", "is_name": "(text)",
        "is_number": "(value)", "check_number": "(what, value, least, most)", "split_words": "(text)",
        "join_words": "(lines)", "read_number": "(word)",
    },
    "webs": {"write_web": "(web)", "read_web": "(text)"},
    "boards": {"empty_board": "(web)", "write_board": "(board)", "read_board": "(text)"},
    "companies": {
        "company_of": "(board, place)", "name_of": "(board, place)", "company_names": "(board, hand)",
        "free_neighbours": "(board, place)", "touched_by": "(board, place, hand)", "closed_companies": "(board)",
        "is_right": "(board)", "check_right": "(board)",
    },
    "laying": {
        "taken_by": "(board, hand, place)", "lay": "(board, hand, place)", "lay_fault": "(board, hand, place)",
        "let_places": "(board, hand)", "lay_row": "(board, hand, row)",
    },
    "records": {
        "write_record": "(game)", "read_record": "(text)", "is_record": "(text)", "replay": "(board, first, deeds)",
        "is_game": "(board, first, deeds)", "boards_of": "(game)", "takings_of": "(game)",
        "common_start": "(one, two)",
    },
    "branches": {"write_branches": "(branches)", "read_branches": "(text)"},
    "rooms": {
        "rooms_of": "(board, hand)", "room_of": "(board, hand, place)", "room_border": "(board, hand, place)",
        "owns": "(board, place, room)",
    },
    "rounds": {
        "rounds_of": "(board, hand)", "is_log": "(board, hand, log)", "standing": "(board, hand)",
        "standing_both": "(board)", "stands": "(board, place)", "out_order": "(board, hand)",
        "kept_room": "(board, place)", "ranks": "(board, hand)", "is_good_family": "(board, hand, names)",
        "standing_plain": "(board, hand)",
    },
    "papers": {
        "stand_paper": "(board, hand)", "narrow_paper": "(board, place)", "is_stand_paper": "(board, hand, rows)",
        "is_paper_for": "(board, place, rows)", "paper_rooms": "(rows)",
    },
    "takings": {
        "taking_steps": "(board, place)", "taking_row": "(board, place)", "taking_game": "(board, place)",
        "is_taking_row": "(board, place, row)", "taking_all": "(board, hand)", "reached_boards": "(board, hand)",
        "least_taking": "(board, place)", "decide": "(board, place)", "is_decision": "(board, place, word, paper)",
    },
    "changes": {
        "standing_places": "(board, hand)", "change_by": "(board, hand, place)", "spoiling_places": "(board, hand)",
        "strengthening_places": "(board, hand)", "change_papers": "(board, hand, place)",
        "standing_along": "(game, hand)",
    },
    "counts": {
        "free_parts": "(board)", "reach_of": "(board, place)", "territory": "(board)", "score": "(board)",
        "held_rooms": "(board, hand)", "sure_places": "(board, hand)", "sure_score": "(board)",
        "sure_winner": "(board)", "report": "(game)", "is_sure": "(board, hand, place, rows)",
    },
    "trees": {
        "is_taken_tree": "(board, place, tree, *, first=None, depth, shield=None)",
        "is_kept_tree": "(board, place, tree, *, first=None, depth, shield=None)",
        "is_escape_tree": "(board, place, tree, *, depth)", "write_tree": "(tree)", "read_tree": "(text)",
        "tree_pairs": "(tree)", "tree_depth": "(tree)",
    },
    "search": {
        "attack": "(board, place, *, first=None, depth=4, budget=200, shield=None)",
        "chase": "(board, place, *, depth=8, budget=200)",
        "passing_search": "(board, place, *, depth=5, budget=200)",
        "attack_all": "(board, hand, *, depth=2, budget=200)",
    },
    "races": {
        "race_value": "(own, other, shared, *, after_pass=False)",
        "race_best": "(own, other, shared, *, after_pass=False)", "race_deeds": "(own, other, shared)",
        "race_after": "(own, other, shared, deed)", "race_table": "(most)", "race_line": "(own, other, shared)",
    },
    "raceboards": {
        "race_board": "(own, other, shared)", "race_numbers": "(board, one, two)",
        "race_place": "(board, one, two, deed)", "race_game": "(own, other, shared)",
        "race_search": "(own, other, shared, *, budget=400)",
    },
    "making": {
        "least_making": "(board, place, *, most=2)", "least_unmaking": "(board, place, *, most=2)",
        "is_unmaking_row": "(board, place, row)", "is_making_row": "(board, place, row)", "right_boards": "(web)",
        "stand_tally": "(web, hand)", "smallest_standing": "(web, hand)",
    },
    "likeness": {
        "is_likeness": "(one, two, mapping)", "first_likeness": "(one, two)", "likenesses": "(web)",
        "inverse_map": "(mapping)", "composed": "(first, second)", "lead_board": "(board, two, mapping)",
        "orbit_of": "(board)", "least_form": "(board)", "leading_likeness": "(one, two)", "orbit_count": "(web)",
        "lead_row": "(row, mapping)", "lead_game": "(game, two, mapping)",
        "lead_paper": "(board, hand, rows, two, mapping)",
    },
    "joining": {
        "beside": "(one, two)", "cut_apart": "(board)", "piece_at": "(board, place)", "joined_rows": "(papers)",
        "cut_rows": "(board, rows, place)", "mirrored_game": "(game)",
    },
    "player": {
        "candidates": "(game)", "choose": "(game)", "choose_sure": "(game)",
        "play_out": "(game, *, most=20, style='plain')",
    },
    "book": {
        "write_book": "(book)", "read_book": "(text)", "audit": "(text)", "first_difference": "(one, two)",
        "decision_row": "(book, name, board_name, place)",
    },
    "scripts": {"run_line": "(book, line)", "run_script": "(text)"},
}
CLASSES = {
    "webs": {
        "Web": {
            "__init__": "(self, places, ties)", "near": "(self, place)", "tied": "(self, one, two)",
            "part": "(self, place, within)", "parts": "(self, within)", "border": "(self, within)",
            "distance": "(self, one, two, within)", "pieces": "(self)", "lone": "(self)", "__len__": "(self)",
            "__iter__": "(self)", "__contains__": None, "__eq__": None, "places": property, "ties": property,
        },
    },
    "boards": {
        "Board": {
            "__init__": "(self, web, signs)", "sign": "(self, place)", "hand_at": "(self, place)",
            "bearing": "(self, sign)", "put": "(self, place, sign)", "__eq__": None, "__neg__": "(self)",
            "web": property, "signs": property,
        },
    },
    "games": {
        "Game": {
            "__init__": "(self, board, first)", "fault": "(self, deed)", "play": "(self, deed)",
            "open_deeds": "(self)", "undo": "(self)", "twin": "(self)", "__len__": "(self)", "__iter__": "(self)",
            "__eq__": None, "board": property, "first_board": property, "first_hand": property, "turn": property,
            "over": property, "deeds": property, "stood": property,
        },
    },
    "branches": {
        "Branches": {
            "__init__": "(self, board, first)", "grow": "(self, node, deed)", "parent": "(self, node)",
            "deed": "(self, node)", "children": "(self, node)", "path": "(self, node)", "game_at": "(self, node)",
            "leaves": "(self)", "meeting": "(self, one, two)", "__len__": "(self)", "__contains__": None,
            "__eq__": None, "first_board": property, "first_hand": property,
        },
    },
    "rooms": {
        "RoomTable": {
            "__init__": "(self, board, hand)", "room_places": "(self, room)", "company_places": "(self, company)",
            "border_of": "(self, room)", "own_rooms": "(self, company)", "own_companies": "(self, room)",
            "rooms_at": "(self, company)", "__len__": "(self)", "__iter__": "(self)", "board": property,
            "companies": property, "rooms": property,
        },
    },
    "book": {
        "Book": {
            "__init__": "(self)", "enter": "(self, row)", "undo": "(self)", "entries": "(self)",
            "entry_kind": "(self, name)", "web_at": "(self, name)", "board_at": "(self, name)",
            "game_of": "(self, name)", "paper_at": "(self, name)", "twin": "(self)", "__len__": "(self)",
            "__iter__": "(self)", "__contains__": None, "__eq__": None,
        },
    },
}


class TestInterface(unittest.TestCase):
    def test_functions(self):
        for file, functions in FUNCTIONS.items():
            module = importlib.import_module("tworooms." + file)
            for name, signature in functions.items():
                found = getattr(module, name)
                self.assertEqual(str(inspect.signature(found)), signature, name)
                self.assertEqual(found.__module__, module.__name__, name)

    def test_classes(self):
        for file, classes in CLASSES.items():
            module = importlib.import_module("tworooms." + file)
            for name, methods in classes.items():
                held = getattr(module, name)
                self.assertEqual(held.__module__, module.__name__, name)
                for method, signature in methods.items():
                    self.check_method(vars(held)[method], signature, name + "." + method)

    def check_method(self, method, signature, name):
        if signature is property:
            self.assertIsInstance(method, property, name)
        elif signature is not None:
            self.assertEqual(str(inspect.signature(method)), signature, name)

    def test_errors_are_defined_in_their_file(self):
        for name, value in vars(errors).items():
            if inspect.isclass(value):
                self.assertEqual(value.__module__, "tworooms.errors", name)


if __name__ == "__main__":
    unittest.main()
