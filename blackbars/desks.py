"""A desk: lines that are masked for its readers, each by the views of its time."""

from blackbars.cases import Case, ahead_of, check_number
from blackbars.errors import BadCase, BadLog, BadPlace, NothingToUndo, TooPlain
from blackbars.hidden import hidden, words_for
from blackbars.lots import every_lot
from blackbars.trails import is_number_to
from blackbars.views import masked_line
from blackbars.words import is_line


def _all_places(case):
    return list(range(len(case.views)))


class Desk:
    """Lines for the readers of the views of a case; the views may be exchanged for others."""

    def __init__(self, case, *, floor=1):
        check_number(floor)
        self._case = case
        self._floor = floor
        # For each line the case of its time, and the list of what each view then showed of it.
        self._rows = []
        # For each deed that may be undone the case that was there before it; None for a line that was added.
        self._deeds = []

    def add(self, line):
        """Mask a line and return its number."""
        if not is_line(line):
            raise BadLog(line)
        for _, at in self._case.places([line]):
            many = hidden(self._case, [line], (0, at), _all_places(self._case))
            if many is not None and many < self._floor:
                raise TooPlain((at, many))
        told = [masked_line(view, line) for view in self._case.views]
        self._rows.append((self._case, list(line), told))
        self._deeds.append(None)
        return len(self._rows)

    def change(self, views):
        """Put other views in the place of the views, as many as there were."""
        case = Case(views, self._case.secrets)
        if len(case.views) != len(self._case.views):
            raise BadCase((case.views, case.secrets))
        self._deeds.append(self._case)
        self._case = case

    def lines(self):
        """Return the list of the tuples (number, line)."""
        return [(at + 1, list(line)) for at, (_, line, _) in enumerate(self._rows)]

    def shown_to(self, place):
        """Return the list of the masked lines that the reader at a place has."""
        self._case.check_places([place])
        return [list(told[place]) for _, _, told in self._rows]

    def _check_spot(self, spot):
        if not isinstance(spot, tuple) or len(spot) != 2 or not is_number_to(spot[0], len(self._rows)) or spot[0] == 0:
            raise BadPlace(spot)
        case, line, _ = self._rows[spot[0] - 1]
        at = spot[1]
        if not is_number_to(at, len(line) - 1) or not case.is_secret(ahead_of(line, at), line[at]):
            raise BadPlace(spot)

    def hidden(self, number, word, places):
        """Return among how many words a secret of a line is hidden for the readers at some places, None for endless."""
        self._check_spot((number, word))
        self._case.check_places(places)
        case, line, _ = self._rows[number - 1]
        return hidden(case, [line], (0, word), places)

    def same(self, spots):
        """Return the lot of the words that could stand at each of some secret spots (number, word)."""
        for spot in spots:
            self._check_spot(spot)
        found = every_lot()
        for number, word in spots:
            case, line, _ = self._rows[number - 1]
            found = found & words_for(case, [line], (0, word), _all_places(case))
        return found

    def undo(self, many):
        """Undo the last deeds: lines that were added, and views that were exchanged."""
        if not is_number_to(many, len(self._deeds)):
            raise NothingToUndo(many)
        for _ in range(many):
            case = self._deeds.pop()
            if case is None:
                self._rows.pop()
            else:
                self._case = case
