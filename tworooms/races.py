"""Races between two companies, told by three numbers: deeds, values, best deeds and lines."""

from tworooms.errors import BadNumber, NoEntry
from tworooms.names import check_number

MOST_FREE_PLACES = 1000000
MOST_IN_TABLE = 4
MOST_IN_LINE = 30
FILL = "fill"
SHARE = "share"
OWN = "own"
PASS_DEED = "pass"
WINS = "wins"
LOSES = "loses"
PEACE = "peace"
# What a value for the one mover is for the other one.
TURNED = {"wins": "loses", "loses": "wins", "peace": "peace"}


def race_value(own, other, shared, *, after_pass=False):
    """The value of the race for its mover, by the rule."""
    check_race(own, other, shared, MOST_FREE_PLACES)
    return value_by_rule(own, other, shared, after_pass)


def race_best(own, other, shared, *, after_pass=False):
    """The best deed of the mover."""
    check_race(own, other, shared, MOST_FREE_PLACES)
    return best_deed(own, other, shared, after_pass)


def race_deeds(own, other, shared):
    """The race deeds of the mover, in order."""
    check_race(own, other, shared, MOST_FREE_PLACES)
    deeds = []
    if other >= 1:
        deeds.append(FILL)
    # A share that takes needs no free place left for the mover's own company.
    if shared >= 1 and (other + shared == 1 or own + shared >= 2):
        deeds.append(SHARE)
    if own >= 1 and own + shared >= 2:
        deeds.append(OWN)
    deeds.append(PASS_DEED)
    return deeds


def race_after(own, other, shared, deed):
    """The numbers for the next mover after the deed, or None if it takes."""
    if deed not in race_deeds(own, other, shared):
        raise NoEntry(deed)
    return after_deed(own, other, shared, deed)


def race_table(most):
    """All races with numbers up to `most`, each with its value by plain play, ascending."""
    check_number("most", most, 0, MOST_IN_TABLE)
    numbers = range(most + 1)
    races = [(own, other, shared, after_pass) for own in numbers for other in numbers for shared in numbers
             for after_pass in (False, True) if own + shared >= 1 and other + shared >= 1]
    known = {}
    # Each deed lowers this measure, so a race comes behind all races that its deeds lead to.
    for race in sorted(races, key=measure):
        known[race] = value_by_play(known, race)
    return [(*race, known[race]) for race in races]


def race_line(own, other, shared):
    """The best deeds of both hands until the end, and the result for the first mover."""
    check_race(own, other, shared, MOST_IN_LINE)
    race = (own, other, shared)
    after_pass = False
    deeds = []
    while race is not None:
        deed = best_deed(*race, after_pass)
        deeds.append(deed)
        if after_pass and deed == PASS_DEED:
            return (deeds, PEACE)
        race = after_deed(*race, deed)
        after_pass = deed == PASS_DEED
    # The hand that made the last deed took.
    return (deeds, WINS if len(deeds) % 2 == 1 else LOSES)


def check_bounds(own, other, shared, most):
    """Refuses the first number outside the bounds."""
    check_number("own", own, 0, most)
    check_number("other", other, 0, most)
    check_number("shared", shared, 0, most)


def check_race(own, other, shared, most):
    """Refuses numbers outside the bounds, then numbers that are no race."""
    check_bounds(own, other, shared, most)
    if own + shared == 0:
        raise BadNumber("own", own)
    if other + shared == 0:
        raise BadNumber("other", other)


def value_by_rule(own, other, shared, after_pass):
    """The value of a race, without play."""
    if own - other >= max(shared - 1, 0):
        return WINS
    if other - own >= max(shared, 1) and not after_pass:
        return LOSES
    return PEACE


def best_deed(own, other, shared, after_pass):
    """The best deed of a race."""
    value = value_by_rule(own, other, shared, after_pass)
    if after_pass and value != WINS:
        return PASS_DEED
    if other >= 1:
        return FILL
    if value == WINS:
        return SHARE
    return PASS_DEED


def after_deed(own, other, shared, deed):
    """The numbers for the next mover after a race deed, or None if it takes."""
    own_left = own - 1 if deed == OWN else own
    other_left = other - 1 if deed == FILL else other
    shared_left = shared - 1 if deed == SHARE else shared
    if other_left + shared_left == 0:
        return None
    return (other_left, own_left, shared_left)


def measure(race):
    """The number that each deed of a race lowers."""
    own, other, shared, after_pass = race
    return 2 * (own + other + shared) - (1 if after_pass else 0)


def value_by_play(known, race):
    """The value of a race, from the known values of the races that its deeds lead to."""
    own, other, shared, _ = race
    reached = [reached_by(known, race, deed) for deed in race_deeds(own, other, shared)]
    for value in (WINS, PEACE):
        if value in reached:
            return value
    return LOSES


def reached_by(known, race, deed):
    """What the mover reaches by the deed."""
    own, other, shared, after_pass = race
    if after_pass and deed == PASS_DEED:
        return PEACE
    after = after_deed(own, other, shared, deed)
    if after is None:
        return WINS
    race_behind = (*after, deed == PASS_DEED)
    return TURNED[known[race_behind]]
