"""Which views mask all logs to the same, and which rules of a view do nothing for that."""

from blackbars.reads import size_shape, text_shape
from blackbars.survey import Survey, told_of
from blackbars.views import shown_by
from blackbars.words import lesser_log


def _most_alike(acts, kind):
    """Return up to how many characters of a word two acts of a kind may show the same, though they show more."""
    many = sorted([act[1] for act in acts if act[0] == kind])
    return many[-2] if len(many) > 1 else 0


def _tellers(views):
    """Return the list of the shapes, and that of the words, of which different acts of some views show the same."""
    acts = {act: True for view in views for _, _, act in view}
    shapes = [text_shape(act, other[1]) for other in acts for act in acts if other[0] == "put" and act[0] != "put"]
    words = [shape[0][1] for shape in shapes if shape is not None and len(shape) == 1 and shape[0][0] == "text"]
    shapes = [shape for shape in shapes if shape is not None and (len(shape) > 1 or shape[0][0] != "text")]
    most = max(_most_alike(acts, "first"), _most_alike(acts, "last"))
    return shapes + [size_shape(size) for size in range(1, most + 1)], words


def first_unlike(first, second):
    """Return the least log that two views mask differently, or None."""
    shapes, names = _tellers([first, second])
    survey = Survey([first, second], shapes, names)
    best = None
    known = {}
    for ahead in survey.all_aheads:
        rules, other_rules = survey.rules(first, ahead), survey.rules(second, ahead)
        key = (tuple(rules), tuple(other_rules))
        if key in known:
            continue
        known[key] = True
        for word, mark in survey.samples:
            # If all first words of lines are shown the same, a second one tells what is shown of it alone.
            if told_of(rules, word, mark) != told_of(other_rules, word, mark):
                best = lesser_log(best, [[word] if ahead == "" else [ahead, word]])
                break
        if ahead == "" and best is not None:
            break
    return best


def _rows_for(view, shapes, names):
    """Return the list of the tuples (word, rules) of the rules that are for a sample behind some word."""
    survey = Survey([view], shapes, names)
    found = []
    known = {}
    for ahead in survey.all_aheads:
        rules = survey.rules(view, ahead)
        key = tuple([place for place, _, _ in rules])
        if key not in known:
            known[key] = True
            rows = [(word, [rule for rule in rules if mark & rule[1]]) for word, mark in survey.samples]
            found.extend([row for row in rows if row[1]])
    return found


def idle_rules(view):
    """Return the list of the places of the rules that are never done, ascending."""
    done = {rules[0][0]: True for _, rules in _rows_for(view, [], [])}
    return [place for place in range(len(view)) if place not in done]


def _differing_rows(view):
    """Return the list of the lists of rules for which the first one shows other than the next one, or than keep."""
    shapes, names = _tellers([view])
    found = []
    for word, rules in _rows_for(view, shapes, names):
        instead = shown_by(rules[1][2], word) if len(rules) > 1 else [word]
        if shown_by(rules[0][2], word) != instead:
            found.append(rules)
    return found


def spare_rules(view):
    """Return the list of the places of the rules each of which may be left out by itself, ascending."""
    needed = {rules[0][0]: True for rules in _differing_rows(view)}
    return [place for place in range(len(view)) if place not in needed]


def changeable(view):
    """Return the list of the places of the rules that may change places with the next one, ascending."""
    needed = {rules[0][0]: True for rules in _differing_rows(view) if len(rules) > 1 and rules[1][0] == rules[0][0] + 1}
    return [place for place in range(len(view) - 1) if place not in needed]
