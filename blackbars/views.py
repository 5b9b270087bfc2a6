"""Acts, rules and views, and what is shown of words and logs."""

from blackbars.errors import BadLog
from blackbars.shapes import fits, is_shape
from blackbars.words import is_log, is_shown, is_word

MOST_BEHIND = 4
MOST_IN_BEHIND = 12
MOST_IN_TEXT = 6
MOST_SHOWN = 3
MOST_RULES = 6


def is_act(value):
    """Return whether any value is an act."""
    if not isinstance(value, tuple):
        return False
    if len(value) == 1:
        return value[0] in ("keep", "stars", "out")
    if len(value) != 2:
        return False
    kind, more = value
    if kind == "put":
        return is_shown(more) and len(more) <= MOST_IN_TEXT
    if kind not in ("first", "last") or not isinstance(more, int) or isinstance(more, bool):
        return False
    return 1 <= more <= MOST_SHOWN


def _is_ahead(value):
    return value == "" or (is_word(value) and len(value) <= MOST_IN_BEHIND)


def is_behind(value):
    """Return whether any value is what rules and secrets have as their behind; () is one."""
    if not isinstance(value, tuple) or len(value) > MOST_BEHIND:
        return False
    if not all([_is_ahead(ahead) for ahead in value]):
        return False
    return all([value[at] < value[at + 1] for at in range(len(value) - 1)])


def is_rule(value):
    """Return whether any value is a rule."""
    if not isinstance(value, tuple) or len(value) != 3:
        return False
    behind, shape, act = value
    return is_behind(behind) and is_shape(shape) and is_act(act)


def is_view(value):
    """Return whether any value is a view."""
    return isinstance(value, tuple) and len(value) <= MOST_RULES and all([is_rule(rule) for rule in value])


def done_rule(view, ahead, word):
    """Return the place of the rule that is done for a word behind a word (or ""), or None."""
    for place, (behind, shape, _) in enumerate(view):
        if (not behind or ahead in behind) and fits(shape, word):
            return place
    return None


def shown_by(act, word):
    """Return the list of what an act shows of a word."""
    kind = act[0]
    if kind == "keep":
        return [word]
    if kind == "put":
        return [act[1]]
    if kind == "first":
        return [word[:act[1]] + "*"]
    if kind == "last":
        return ["*" + word[-act[1]:]]
    if kind == "stars":
        return ["*" * len(word)]
    return []


def shown(view, ahead, word):
    """Return the list of what a view shows of a word behind a word (or ""): [] or [shown word]."""
    place = done_rule(view, ahead, word)
    return [word] if place is None else shown_by(view[place][2], word)


def masked_line(view, line):
    """Return the list of what a view shows of the words of a line."""
    found = []
    ahead = ""
    for word in line:
        found.extend(shown(view, ahead, word))
        ahead = word
    return found


def masked(view, log):
    """Return the log as a view masks it."""
    if not is_log(log):
        raise BadLog(log)
    return [masked_line(view, line) for line in log]
