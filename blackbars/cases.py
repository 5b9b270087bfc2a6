"""Secrets, and cases: views and secrets that go together."""

from blackbars.errors import BadCase, BadLog, BadNumber, BadPlace, BadSecret, BadView
from blackbars.shapes import fits, is_shape
from blackbars.views import is_behind, is_view, masked_line, shown
from blackbars.words import is_log

MOST = 3
MOST_NUMBER = 1000


def is_secret_told(value):
    """Return whether any value is a secret."""
    if not isinstance(value, tuple) or len(value) != 2:
        return False
    behind, shape = value
    return behind != () and is_behind(behind) and is_shape(shape)


def _is_number(value):
    return isinstance(value, int) and not isinstance(value, bool)


def check_number(value):
    """Raise BadNumber for what is not a number of words from 1 to 1000."""
    if not _is_number(value) or not 1 <= value <= MOST_NUMBER:
        raise BadNumber(value)


def _is_spot(value):
    return isinstance(value, tuple) and len(value) == 2 and _is_number(value[0]) and _is_number(value[1])


def ahead_of(line, at):
    """Return the word ahead of a place in a line, or "" at its begin."""
    return line[at - 1] if at > 0 else ""


def word_behind(line, at):
    """Return the word behind a place in a line, or None."""
    return line[at + 1] if at + 1 < len(line) else None


class Case:
    """One to three views and one to three secrets."""

    def __init__(self, views, secrets):
        for view in views:
            if not is_view(view):
                raise BadView(view)
        for secret in secrets:
            if not is_secret_told(secret):
                raise BadSecret(secret)
        self._views = tuple(views)
        self._secrets = tuple(secrets)
        # The shapes of the secrets behind each string that stands in a behind of a secret.
        self._shapes = {}
        for behind, shape in self._secrets:
            for ahead in behind:
                self._shapes.setdefault(ahead, []).append(shape)
        # What later questions have worked out, for the next ones.
        self.worked_out = {}
        if not (1 <= len(self._views) <= MOST and 1 <= len(self._secrets) <= MOST and self._go_together()):
            raise BadCase((self._views, self._secrets))

    def _may_be_secret(self, word):
        return word not in self._shapes and any([fits(shape, word) for _, shape in self._secrets])

    def _go_together(self):
        for view in self._views:
            names_secret = False
            for behind, _, act in view:
                names_secret = names_secret or any([self._may_be_secret(word) for word in behind])
                if names_secret and act == ("out",):
                    return False
        return True

    @property
    def views(self):
        """The tuple of the views."""
        return tuple(self._views)

    @property
    def secrets(self):
        """The tuple of the secrets."""
        return tuple(self._secrets)

    def is_secret(self, ahead, word):
        """Return whether a word is secret behind a word (or "")."""
        if ahead not in self._shapes or word in self._shapes:
            return False
        for shape in self._shapes[ahead]:
            if fits(shape, word):
                return True
        return False

    def places(self, log):
        """Return the list of the tuples (line, word) of the secrets of a log, ascending."""
        if not is_log(log):
            raise BadLog(log)
        found = []
        for line_at, line in enumerate(log):
            ahead = ""
            for at, word in enumerate(line):
                if self.is_secret(ahead, word):
                    found.append((line_at, at))
                ahead = word
        return found

    def _are_alike_lines(self, first, second):
        if len(first) != len(second):
            return False
        for at, word in enumerate(first):
            if word != second[at] and not (
                    self.is_secret(ahead_of(first, at), word)
                    and self.is_secret(ahead_of(second, at), second[at])):
                return False
        return True

    def are_alike(self, first, second):
        """Return whether two logs are alike but for secrets."""
        self._check_logs(first, second)
        if len(first) != len(second):
            return False
        return all([self._are_alike_lines(line, other) for line, other in zip(first, second)])

    def look_same(self, first, second, places):
        """Return whether two logs look the same for the views at some places."""
        self._check_logs(first, second)
        self.check_places(places)
        if len(first) != len(second):
            return len(places) == 0
        for place in places:
            view = self._views[place]
            for line, other in zip(first, second):
                if masked_line(view, line) != masked_line(view, other):
                    return False
        return True

    def look(self, log, spot, place):
        """Return the look of the secret at a spot of a log for the view at a place."""
        self.check_spot(log, spot)
        self.check_places([place])
        line, at = log[spot[0]], spot[1]
        view = self._views[place]
        found = shown(view, ahead_of(line, at), line[at])
        further = word_behind(line, at)
        return found if further is None else found + shown(view, line[at], further)

    def _check_logs(self, first, second):
        for log in (first, second):
            if not is_log(log):
                raise BadLog(log)

    def check_spot(self, log, spot):
        """Raise BadLog for what is no log, then BadPlace for what is no spot of a secret of it."""
        if not is_log(log):
            raise BadLog(log)
        if not _is_spot(spot) or not 0 <= spot[0] < len(log) or not 0 <= spot[1] < len(log[spot[0]]):
            raise BadPlace(spot)
        line, at = log[spot[0]], spot[1]
        if not self.is_secret(ahead_of(line, at), line[at]):
            raise BadPlace(spot)

    def check_places(self, places):
        """Raise BadPlace for the first one of some places that is not a place of a view."""
        for place in places:
            if not _is_number(place) or not 0 <= place < len(self._views):
                raise BadPlace(place)
