"""One unknown word that is seen at several places by several views."""

from blackbars.errors import BadCase, BadSighting, BadView, NothingToUndo
from blackbars.lots import every_lot, none_lot, view_lot, word_lot
from blackbars.views import is_view, shown
from blackbars.words import is_shown, is_word

MOST_VIEWS = 4
MOST_IN_LOOK = 2


def is_number_to(value, most):
    """Return whether any value is an integer from 0 to a number."""
    return isinstance(value, int) and not isinstance(value, bool) and 0 <= value <= most


def is_sighting(value):
    """Return whether any value is a sighting."""
    if not isinstance(value, tuple) or len(value) != 4:
        return False
    place, ahead, behind, look = value
    if not isinstance(place, int) or isinstance(place, bool) or place < 0:
        return False
    if not (ahead == "" or is_word(ahead)) or not (behind is None or is_word(behind)):
        return False
    return isinstance(look, list) and len(look) <= MOST_IN_LOOK and all([is_shown(text) for text in look])


def _lot_before(view, ahead, behind, look):
    """Return the lot of the words of which a view's look between two words is a list."""
    # Behind words that no rule names, the word behind is shown by the rules that are for words anywhere.
    told = shown(tuple([rule for rule in view if not rule[0]]), "", behind)
    many = len(look) - len(told)
    found = none_lot() if many < 0 or look[many:] != told else view_lot(view, ahead, look[:many])
    named = sorted(set([name for names, _, _ in view for name in names if name != ""]))
    for name in named:
        goes = shown(view, ahead, name) + shown(view, name, behind) == look
        if goes != (name in found):
            found = found | word_lot(name) if goes else found - word_lot(name)
    return found


class Trail:
    """What one to four views show of an unknown word, sighting by sighting."""

    def __init__(self, views):
        for view in views:
            if not is_view(view):
                raise BadView(view)
        self._views = tuple(views)
        if not 1 <= len(self._views) <= MOST_VIEWS:
            raise BadCase(self._views)
        self._sightings = []
        # The lots of the first sightings, and of these and all before them; made when they are first asked for.
        self._lots = []
        self._whole = [every_lot()]

    def see(self, sighting):
        """Keep a sighting."""
        if not is_sighting(sighting) or sighting[0] >= len(self._views):
            raise BadSighting(sighting)
        place, ahead, behind, look = sighting
        self._sightings.append((place, ahead, behind, list(look)))

    @property
    def sightings(self):
        """The list of the sightings."""
        return [(place, ahead, behind, list(look)) for place, ahead, behind, look in self._sightings]

    def _lot_at(self, at):
        place, ahead, behind, look = self._sightings[at]
        if behind is None:
            return view_lot(self._views[place], ahead, look)
        return _lot_before(self._views[place], ahead, behind, look)

    def words(self):
        """Return the lot of the words that go with all sightings."""
        many = len(self._lots)
        for at in range(many, len(self._sightings)):
            self._lots.append(self._lot_at(at))
            self._whole.append(self._whole[at] & self._lots[at])
        return self._whole[-1]

    def known(self):
        """Return the word, if there is just one, otherwise None."""
        found = self.words()
        return found.least() if found.count() == 1 else None

    def is_possible(self):
        """Return whether there is a word that goes with all sightings."""
        return self.words().least() is not None

    def spare(self):
        """Return the list of the places of sightings without which no more words are possible, ascending."""
        whole = self.words()
        found = []
        later = every_lot()
        for at in range(len(self._sightings) - 1, -1, -1):
            if self._whole[at] & later == whole:
                found.append(at)
            later = later & self._lots[at]
        return found[::-1]

    def undo(self, many):
        """Take the last sightings back."""
        if not is_number_to(many, len(self._sightings)):
            raise NothingToUndo(many)
        rest = len(self._sightings) - many
        del self._sightings[rest:]
        del self._lots[rest:]
        del self._whole[rest + 1:]
