"""Webs: places and the ties between them, and their text form."""

from tworooms.errors import BadName, BadNumber, BadText, NoPlace, Repeated, SelfTie, TooMany
from tworooms.forms import end_text, words_behind
from tworooms.names import MOST_PLACES, MOST_TIES, is_name, join_words, split_words


class Web:
    """A set of places with ties between them; it never changes."""

    def __init__(self, places, ties):
        check_places(places)
        check_ties(places, ties)
        check_repeats(places, ties)
        self._places = sorted(places)
        self._ties = sorted([ordered_pair(one, two) for one, two in ties])
        self._near = near_table(self._places, self._ties)

    @property
    def places(self):
        """The places, ascending."""
        return list(self._places)

    @property
    def ties(self):
        """The ties as pairs (lesser place, greater place), ascending."""
        return list(self._ties)

    def near(self, place):
        """The places tied to the place, ascending."""
        self._check_place(place)
        return list(self._near[place])

    def tied(self, one, two):
        """Whether a tie joins the two places."""
        self._check_place(one)
        self._check_place(two)
        return two in self._near[one]

    def part(self, place, within):
        """The part of a set of places that contains the place, ascending."""
        self._check_place(place)
        self._check_all(within)
        return sorted(self._steps_from(place, within))

    def parts(self, within):
        """All parts of a set of places, in ascending order."""
        self._check_all(within)
        found = []
        seen = {}
        for place in sorted(set(within)):
            if place not in seen:
                steps = self._steps_from(place, within)
                seen.update(steps)
                found.append(sorted(steps))
        return found

    def border(self, within):
        """The places outside of a set of places that are tied to one of it, ascending."""
        self._check_all(within)
        inside = set(within)
        return sorted({beside for place in within for beside in self._near[place] if beside not in inside})

    def distance(self, one, two, within):
        """The least number of steps between two places in a set of places, or None."""
        self._check_place(one)
        self._check_place(two)
        self._check_all(within)
        return self._steps_from(one, within).get(two)

    def pieces(self):
        """The parts of the whole web, in ascending order."""
        return self.parts(self._places)

    def lone(self):
        """The places without a tie, ascending."""
        return [place for place in self._places if len(self._near[place]) == 0]

    def _check_place(self, place):
        if place not in self._near:
            raise NoPlace(place)

    def _check_all(self, within):
        for place in within:
            self._check_place(place)

    def _steps_from(self, start, within):
        """The distance from the start for each place that is joined to it in the set."""
        inside = set(within)
        if start not in inside:
            return {}
        steps = {start: 0}
        reached = [start]
        at = 0
        while at < len(reached):
            place = reached[at]
            at += 1
            for beside in self._near[place]:
                if beside in inside and beside not in steps:
                    steps[beside] = steps[place] + 1
                    reached.append(beside)
        return steps

    def __len__(self):
        return len(self._places)

    def __iter__(self):
        return iter(self._places)

    def __contains__(self, x):
        return x in self._near

    def __eq__(self, other):
        return isinstance(other, Web) and self._places == other._places and self._ties == other._ties


def ordered_pair(one, two):
    """The pair with the lesser place first."""
    if one < two:
        return (one, two)
    return (two, one)


def near_table(places, ties):
    """The near places of each place, ascending."""
    near = {place: [] for place in places}
    for one, two in ties:
        near[one].append(two)
        near[two].append(one)
    return {place: sorted(near[place]) for place in places}


def check_places(places):
    """Refuses an empty list of places and the first bad name."""
    if len(places) == 0:
        raise BadNumber("places", 0)
    for place in places:
        if not is_name(place):
            raise BadName(place)


def check_ties(places, ties):
    """Refuses lists that are too long, and ties that do not join two places."""
    if len(places) > MOST_PLACES:
        raise TooMany("places", MOST_PLACES)
    if len(ties) > MOST_TIES:
        raise TooMany("ties", MOST_TIES)
    for pair in ties:
        for place in pair:
            if place not in places:
                raise NoPlace(place)
    for one, two in ties:
        if one == two:
            raise SelfTie(one)


def check_repeats(places, ties):
    """Refuses a place or a tie that is there twice."""
    names = set()
    for place in places:
        if place in names:
            raise Repeated(place)
        names.add(place)
    pairs = set()
    for one, two in ties:
        pair = ordered_pair(one, two)
        if pair in pairs:
            raise Repeated(write_tie(pair))
        pairs.add(pair)


def write_tie(pair):
    """The text of a tie."""
    one, two = pair
    return f"{one}-{two}"


def write_web(web):
    """The text form of a web."""
    ties = [write_tie(pair) for pair in web.ties]
    return join_words([["places"] + web.places, ["ties"] + ties])


def read_web(text):
    """The web that the text writes."""
    lines = split_words(text)
    web = web_in(lines)
    end_text(lines, 2)
    return web


def web_in(lines):
    """The web that the first two lines write; the lines behind them are not looked at."""
    places = places_in(lines)
    return Web(places, ties_in(lines, places))


def places_in(lines):
    """The places of line 1."""
    words = words_behind(lines, 1, "places")
    if len(words) == 0:
        raise BadText(1, 2)
    at = bad_place_at(words)
    if at is not None:
        raise BadText(1, at + 2)
    return words


def ties_in(lines, places):
    """The ties of line 2, for the places of line 1."""
    words = words_behind(lines, 2, "ties")
    at = bad_tie_at(words, places)
    if at is not None:
        raise BadText(2, at + 2)
    return [tie_in(word, places) for word in words]


def bad_place_at(words):
    """The index of the first word that may not stand there in a row of places, or None."""
    last = ""
    for at, word in enumerate(words):
        if at >= MOST_PLACES or not is_name(word) or word <= last:
            return at
        last = word
    return None


def bad_tie_at(words, places):
    """The index of the first word that may not stand there in a row of ties between the places, or None."""
    last = ("", "")
    for at, word in enumerate(words):
        pair = tie_in(word, places)
        if at >= MOST_TIES or pair is None or pair <= last:
            return at
        last = pair
    return None


def tie_in(word, places):
    """The pair of places that the word writes, or None."""
    names = word.split("-")
    if len(names) != 2 or names[0] not in places or names[1] not in places or names[0] >= names[1]:
        return None
    return (names[0], names[1])
