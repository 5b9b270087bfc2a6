"""A console with views and secrets, which executes commands."""

from blackbars.cases import Case
from blackbars.errors import BadCommand, BadPlace, BadText
from blackbars.fewest import first_fewer
from blackbars.hidden import hidden
from blackbars.learned import first_shown, other_log
from blackbars.texts import log_text, read_log, read_secret, read_view, secret_text, view_text
from blackbars.views import masked
from blackbars.words import DIGITS

ALONE = ("clear", "shown", "views", "secrets")
MOST_FIGURES = 9


def _read_number(text):
    """Return the integer that has a text."""
    is_number = 0 < len(text) <= MOST_FIGURES and text.strip(DIGITS) == ""
    if not is_number or (text[0] == "0" and text != "0"):
        raise BadText(text)
    return int(text)


def _read_place_and_log(text):
    place, blank, log = text.partition(" ")
    if blank == "":
        raise BadText(text)
    return _read_number(place), read_log(log)


def _read_behind(word, text):
    """Return what is read of the text behind the word of a command."""
    if word == "view":
        return read_view(text)
    if word == "secret":
        return read_secret(text)
    if word == "mask":
        return _read_place_and_log(text)
    if word == "hidden":
        return read_log(text)
    if word == "fewer":
        return _read_number(text)
    raise BadText(text)


def _read(command):
    """Return the word of a command and what is read behind it, None if it stands alone."""
    if isinstance(command, str):
        word, blank, text = command.partition(" ")
        if blank == "" and word in ALONE:
            return word, None
        try:
            if blank != "":
                return word, _read_behind(word, text)
        except BadText:
            raise BadCommand(command) from None
    raise BadCommand(command)


def _on_one_line(texts):
    return " | ".join(texts).replace("\n", ";")


class Console:
    """Views and secrets, none at first; an object of the class is called with a command and returns a text."""

    def __init__(self):
        self._views = []
        self._secrets = []
        # The case of these views and secrets, made when it is first asked for.
        self._case = None

    def __call__(self, command):
        """Execute a command and return a text."""
        word, told = _read(command)
        if word in ("view", "secret", "clear"):
            return self._changed(word, told)
        if word == "views":
            return _on_one_line([view_text(view) for view in self._views]) if self._views else "none"
        if word == "secrets":
            return _on_one_line([secret_text(secret) for secret in self._secrets]) if self._secrets else "none"
        if word == "mask":
            return self._masked(told[0], told[1])
        return self._asked(word, told)

    def _changed(self, word, told):
        self._case = None
        if word == "view":
            self._views.append(told)
        elif word == "secret":
            self._secrets.append(told)
        else:
            self._views = []
            self._secrets = []
        return "ok"

    def _masked(self, place, log):
        if place >= len(self._views):
            raise BadPlace(place)
        return log_text(masked(self._views[place], log))

    def _asked(self, word, told):
        if self._case is None:
            self._case = Case(self._views, self._secrets)
        places = list(range(len(self._views)))
        if word == "hidden":
            return self._hidden(told, places)
        if word == "shown":
            return self._shown(places)
        found = first_fewer(self._case, places, told)
        return "none" if found is None else _on_one_line([log_text(found[0])]) + f" {found[2]}"

    def _hidden(self, log, places):
        many = [hidden(self._case, log, spot, places) for spot in self._case.places(log)]
        return " ".join(["endless" if each is None else str(each) for each in many]) if many else "none"

    def _shown(self, places):
        log = first_shown(self._case, places)
        if log is None:
            return "nothing"
        return _on_one_line([log_text(log), log_text(other_log(self._case, places, log))])
