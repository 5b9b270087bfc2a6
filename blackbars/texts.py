"""Texts of shapes, rules, views, secrets and logs, and reading them back."""

from blackbars.cases import is_secret_told
from blackbars.errors import BadText
from blackbars.shapes import is_shape
from blackbars.views import is_rule, is_view
from blackbars.words import DIGITS, is_log

BEHIND = "behind "
NO_LINES = "(none)"


def _run_text(run):
    if run[0] == "text":
        return f"text {run[1]}"
    high = "" if run[2] is None else run[2]
    return f"{run[0]} {run[1]}-{high}"


def _behind_text(behind):
    names = ",".join([word or "^" for word in behind])
    return f"{BEHIND}{names} " if behind else ""


def _act_text(act):
    return " ".join([str(part) for part in act])


def shape_text(shape):
    """Return the text of a shape."""
    return " + ".join([_run_text(run) for run in shape])


def rule_text(rule):
    """Return the text of a rule."""
    behind, shape, act = rule
    return f"{_behind_text(behind)}{shape_text(shape)}: {_act_text(act)}"


def view_text(view):
    """Return the text of a view."""
    return "\n".join([rule_text(rule) for rule in view])


def secret_text(secret):
    """Return the text of a secret."""
    behind, shape = secret
    return f"{_behind_text(behind)}{shape_text(shape)}"


def log_text(log):
    """Return the text of a log, also of a masked one."""
    return "\n".join([" ".join(line) for line in log]) if log else NO_LINES


# What is read here may be no shape, rule or act at all, as the text may be any; it is judged, and written again, after.


def _number_of(text):
    """Return the integer of a figure, None for no text, and -1, which may stand nowhere, for other texts."""
    if text == "":
        return None
    return int(text) if len(text) == 1 and text in DIGITS else -1


def _run_of(text):
    kind, _, rest = text.partition(" ")
    if kind == "text":
        return (kind, rest)
    low, _, high = rest.partition("-")
    return (kind, _number_of(low), _number_of(high))


def _shape_of(text):
    return tuple([_run_of(part) for part in text.split(" + ")])


def _behind_of(text):
    """Return the behind with which a text begins, and the rest of the text."""
    if not text.startswith(BEHIND):
        return (), text
    names, _, rest = text[len(BEHIND):].partition(" ")
    return tuple(["" if name == "^" else name for name in names.split(",")]), rest


def _act_of(text):
    kind, blank, rest = text.partition(" ")
    if blank == "":
        return (kind,)
    return (kind, rest if kind == "put" else _number_of(rest))


def _rule_of(text):
    behind, rest = _behind_of(text)
    shape, _, act = rest.partition(": ")
    return (behind, _shape_of(shape), _act_of(act))


def _log_of(text):
    if text == NO_LINES:
        return []
    return [line.split(" ") if line else [] for line in text.split("\n")]


def read_shape(text):
    """Return the shape that has a text."""
    shape = _shape_of(text) if isinstance(text, str) else None
    if not is_shape(shape) or shape_text(shape) != text:
        raise BadText(text)
    return shape


def read_rule(text):
    """Return the rule that has a text."""
    rule = _rule_of(text) if isinstance(text, str) else None
    if not is_rule(rule) or rule_text(rule) != text:
        raise BadText(text)
    return rule


def read_view(text):
    """Return the view that has a text."""
    if text == "":
        return ()
    view = tuple([_rule_of(line) for line in text.split("\n")]) if isinstance(text, str) else None
    if not is_view(view) or view_text(view) != text:
        raise BadText(text)
    return view


def read_secret(text):
    """Return the secret that has a text."""
    secret = None
    if isinstance(text, str):
        behind, rest = _behind_of(text)
        secret = (behind, _shape_of(rest))
    if not is_secret_told(secret) or secret_text(secret) != text:
        raise BadText(text)
    return secret


def read_log(text):
    """Return the log that has a text."""
    log = _log_of(text) if isinstance(text, str) else None
    if not is_log(log) or log_text(log) != text:
        raise BadText(text)
    return log
