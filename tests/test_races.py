"""Points [76] to [81]: races, their deeds, values, best deeds, tables and lines."""

import functools
import itertools
import unittest

from helper import Case
from tworooms.errors import BadNumber, NoEntry
from tworooms.races import race_after, race_best, race_deeds, race_line, race_table, race_value

MILLION = 1000000
BAD = (True, False, None, -1, 10 ** 19)


def races(most):
    """All races with numbers up to the bound."""
    for own, other, shared in itertools.product(range(most + 1), repeat=3):
        if own + shared >= 1 and other + shared >= 1:
            yield own, other, shared


def plain_deeds(own, other, shared):
    """The race deeds, each with the numbers that it leaves, by the words of point [77]."""
    deeds = {}
    if other >= 1:
        deeds["fill"] = (own, other - 1, shared)
    if shared >= 1:
        less = shared - 1
        if other + less == 0 or own + less >= 1:
            deeds["share"] = (own, other, less)
    if own >= 1:
        less = own - 1
        if less + shared >= 1:
            deeds["own"] = (less, other, shared)
    deeds["pass"] = (own, other, shared)
    return deeds


@functools.lru_cache(maxsize=None)
def plain_value(own, other, shared, after_pass):
    """The value by plain play, by the words of point [78]."""
    reached = [plain_reached(own, other, shared, after_pass, deed) for deed in plain_deeds(own, other, shared)]
    return "wins" if "wins" in reached else "peace" if "peace" in reached else "loses"


def plain_reached(own, other, shared, after_pass, deed):
    """What the mover reaches by the deed."""
    if deed == "pass" and after_pass:
        return "peace"
    left, right, both = plain_deeds(own, other, shared)[deed]
    if right + both == 0:
        return "wins"
    value = plain_value(right, left, both, deed == "pass")
    return {"wins": "loses", "loses": "wins", "peace": "peace"}[value]


class TestDeeds(Case):
    def test_all_small_races(self):
        for race in races(5):
            deeds = plain_deeds(*race)
            self.assertEqual(race_deeds(*race), list(deeds))
            for deed, (own, other, shared) in deeds.items():
                after = None if other + shared == 0 else (other, own, shared)
                self.assertEqual(race_after(*race, deed), after)
            for deed in ("fill", "share", "own", "-", "", "Pass"):
                if deed not in deeds:
                    self.refused(NoEntry(deed), race_after, *race, deed)

    def test_each_deed(self):
        self.assertEqual(race_deeds(own=1, other=1, shared=1), ["fill", "share", "own", "pass"])
        self.assertEqual(race_after(own=3, other=2, shared=1, deed="fill"), (1, 3, 1))
        self.assertEqual(race_after(3, 2, 1, "share"), (2, 3, 0))
        self.assertEqual(race_after(3, 2, 1, "own"), (2, 2, 1))
        self.assertEqual(race_after(3, 2, 1, "pass"), (2, 3, 1))
        for race, deed in (((1, 1, 0), "fill"), ((0, 0, 1), "share"), ((5, 0, 1), "share")):
            self.assertIsNone(race_after(*race, deed))
        self.assertIsNotNone(race_after(1, 1, 1, "fill"))

    def test_edges_of_the_deeds(self):
        # The last shared place may be filled if that takes, or if the mover has a place of its own.
        self.assertEqual(race_deeds(0, 0, 1), ["share", "pass"])
        self.assertEqual(race_deeds(0, 1, 1), ["fill", "pass"])
        self.assertEqual(race_deeds(1, 1, 1), ["fill", "share", "own", "pass"])
        self.assertEqual(race_deeds(0, 1, 2), ["fill", "share", "pass"])
        # The last own place may be filled only if a shared one is left.
        self.assertEqual(race_deeds(1, 1, 0), ["fill", "pass"])
        self.assertEqual(race_deeds(2, 1, 0), ["fill", "own", "pass"])
        self.assertEqual(race_deeds(1, 0, 1), ["share", "own", "pass"])
        self.assertEqual(race_deeds(MILLION, MILLION, MILLION), ["fill", "share", "own", "pass"])
        self.assertEqual(race_after(MILLION, MILLION, MILLION, "own"), (MILLION, MILLION - 1, MILLION))


class TestValues(Case):
    def test_the_document_examples(self):
        self.assertEqual(race_value(2, 2, 1), "wins")
        self.assertEqual(race_value(0, 1, 2), "peace")
        self.assertEqual(race_best(1, 0, 2), "share")
        self.assertEqual(race_line(0, 1, 1), (["fill", "share"], "loses"))

    def test_all_small_values(self):
        told = {}
        for race in races(8):
            for after_pass in (False, True):
                value = plain_value(*race, after_pass)
                self.assertEqual(race_value(*race, after_pass=after_pass), value)
                told[value, after_pass] = told.get((value, after_pass), 0) + 1
            self.assertEqual(race_value(*race), plain_value(*race, False))
        self.assertEqual(len(told), 5)
        self.assertNotIn(("loses", True), told)

    def test_the_edges_of_the_rule(self):
        for shared in (0, 1, 2, 3, 17, 1000, MILLION - 1, MILLION):
            for ahead in (max(shared - 1, 0), max(shared, 1)):
                for less in range(0, MILLION - ahead + 1, max(1, (MILLION - ahead) // 3)):
                    if less + shared >= 1:
                        self.check_edge(ahead, less, shared)

    def check_edge(self, ahead, less, shared):
        """The values where one number is so much ahead of the other one, and one less."""
        self.assertEqual(race_value(less + ahead, less, shared), "wins")
        self.assertEqual(race_value(less + ahead, less, shared, after_pass=True), "wins")
        if ahead == max(shared, 1):
            self.assertEqual(race_value(less, less + ahead, shared), "loses")
            self.assertEqual(race_value(less, less + ahead, shared, after_pass=True), "peace")
        elif ahead >= 1:
            self.assertEqual(race_value(less, less + ahead, shared), "peace")
            self.assertEqual(race_value(less + ahead - 1, less, shared), "peace")

    def test_best_deeds_of_all_small_races(self):
        for race in races(6):
            for after_pass in (False, True):
                deed = race_best(*race, after_pass=after_pass)
                value = plain_value(*race, after_pass)
                if after_pass and value != "wins":
                    told = "pass"
                else:
                    told = "fill" if race[1] >= 1 else "share" if value == "wins" else "pass"
                self.assertEqual(deed, told)
                self.assertIn(deed, race_deeds(*race))
                self.assertEqual(plain_reached(*race, after_pass, deed), value)
            self.assertEqual(race_best(*race), race_best(*race, after_pass=False))
        self.assertEqual(race_best(own=MILLION, other=MILLION, shared=MILLION, after_pass=True), "pass")

    def test_tables(self):
        for most in range(5):
            told = [(*race, after_pass, plain_value(*race, after_pass))
                    for race in races(most) for after_pass in (False, True)]
            self.assertEqual(race_table(most), told)
        self.assertEqual(race_table(most=0), [])
        self.assertEqual(race_table(1)[:3], [(0, 0, 1, False, "wins"), (0, 0, 1, True, "wins"),
                                             (0, 1, 1, False, "loses")])
        race_table(1).append("x")
        self.assertEqual(len(race_table(1)), 10)

    def test_lines(self):
        for race in itertools.chain(races(6), [(30, 30, 30), (30, 0, 30), (0, 30, 30), (30, 30, 0), (29, 30, 1)]):
            deeds, result = race_line(*race)
            self.assertEqual(result, race_value(*race))
            now, after_pass = race, False
            for at, deed in enumerate(deeds):
                self.assertEqual(deed, race_best(*now, after_pass=after_pass))
                ended = after_pass and deed == "pass"
                now = None if ended else race_after(*now, deed)
                self.assertEqual(now is None, at == len(deeds) - 1)
                after_pass = deed == "pass"
            if ended:
                self.assertEqual(result, "peace")
            else:
                self.assertEqual(result, "wins" if len(deeds) % 2 == 1 else "loses")
        self.assertEqual(race_line(own=0, other=0, shared=2), (["pass", "pass"], "peace"))
        race_line(0, 0, 2)[0].append("x")
        self.assertEqual(race_line(0, 0, 2)[0], ["pass", "pass"])


class TestErrors(Case):
    def test_bounds_of_all_numbers_come_first(self):
        calls = [(race_value, MILLION), (race_best, MILLION), (race_deeds, MILLION), (race_line, 30),
                 (lambda own, other, shared: race_after(own, other, shared, "x"), MILLION)]
        for call, most in calls:
            for bad in BAD + (most + 1,):
                self.refused(BadNumber("own", bad), call, bad, bad, bad)
                self.refused(BadNumber("other", bad), call, 0, bad, bad)
                self.refused(BadNumber("shared", bad), call, 0, 0, bad)
            self.refused(BadNumber("own", 0), call, 0, 0, 0)
            self.refused(BadNumber("own", 0), call, 0, 1, 0)
            self.refused(BadNumber("other", 0), call, 1, 0, 0)
        self.refused(BadNumber("other", 0), race_value, MILLION, 0, 0, after_pass=True)
        self.refused(BadNumber("own", 0), race_best, 0, MILLION, 0, after_pass=True)
        self.assertEqual(race_value(MILLION, MILLION, MILLION), "peace")
        self.assertEqual(race_line(30, 30, 0)[1], "wins")

    def test_no_entry(self):
        self.refused(NoEntry("x"), race_after, 1, 1, 1, "x")
        self.refused(NoEntry("fill"), race_after, 1, 0, 1, "fill")
        self.refused(NoEntry("-"), race_after, 1, 1, 1, "-")

    def test_most_of_the_table(self):
        for bad in (True, False, None, -1, 5, 10 ** 19):
            self.refused(BadNumber("most", bad), race_table, bad)


if __name__ == "__main__":
    unittest.main()
