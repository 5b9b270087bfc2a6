"""What a view shows of words that are not secret."""

from blackbars.survey import Survey, done_of, told_of
from blackbars.words import lesser_log


def _ways(case, place):
    """Return the list of the tuples (ahead, rules, list of the samples that are not secret), one for each way.

    Where things are the same behind several words, the least one of these is told; "" is the first one.
    """
    view = case.views[place]
    named = [word for behind, _ in case.secrets for word in behind]
    survey = Survey([view], [shape for _, shape in case.secrets], named)
    found = []
    known = {}
    for ahead in survey.all_aheads:
        rules = survey.rules(view, ahead)
        shapes = {shape: True for behind, shape in case.secrets if ahead in behind}
        secret_bits = sum([survey.bit_of[shape] for shape in shapes])
        key = (tuple([at for at, _, _ in rules]), secret_bits)
        if key not in known:
            known[key] = True
            plain = [(word, mark) for word, mark in survey.samples if not mark & secret_bits or word in named]
            found.append((ahead, rules, plain))
    return found


def _least_harmed(rules, plain):
    for word, mark in plain:
        if told_of(rules, word, mark) != [word]:
            return word
    return None


def first_harmed(case, place):
    """Return the least log of which the view at a place shows a word that is not secret otherwise, or None."""
    case.check_places([place])
    best = None
    for ahead, rules, plain in _ways(case, place):
        word = _least_harmed(rules, plain)
        if word is not None:
            best = lesser_log(best, [[word] if ahead == "" else [ahead, word]])
            if ahead == "":
                break
    return best


def harmless_rules(case, place):
    """Return the list of the places of the rules that are never done for a word that is not secret, ascending."""
    case.check_places([place])
    harmful = {}
    for _, rules, plain in _ways(case, place):
        for _, mark in plain:
            rule = done_of(rules, mark)
            if rule is not None:
                harmful[rule[0]] = True
    return [at for at in range(len(case.views[place])) if at not in harmful]
