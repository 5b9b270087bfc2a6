"""Whether anything of secrets can be learned: the least logs that show it, and what is shown if nothing can."""

from blackbars.atlas import atlas_of
from blackbars.cases import ahead_of, word_behind
from blackbars.errors import Shown
from blackbars.views import shown
from blackbars.words import lesser_log


def first_shown(case, places):
    """Return the least log of those that are alike but for secrets to one that looks different, or None."""
    case.check_places(places)
    best = None
    for ahead in atlas_of(case).aheads():
        sight = atlas_of(case).sight(ahead, places)
        word = sight.least()
        if word is None:
            continue
        # Of secrets that are not all shown the same, each one differs from some other one.
        line = [word] if ahead == "" else [ahead, word]
        if sight.least_unlike(word) is None:
            further = sight.least_telling()
            if further is None:
                continue
            line.append(further)
        best = lesser_log(best, [line])
    return best


def _replaced(log, spot, word):
    lines = [list(line) for line in log]
    lines[spot[0]][spot[1]] = word
    return lines


def other_log(case, places, log):
    """Return the least log that is alike but for secrets to a log and does not look the same, or None."""
    case.check_places(places)
    spots = case.places(log)
    sights = [atlas_of(case).sight(ahead_of(log[line], at), places) for line, at in spots]
    least = [list(line) for line in log]
    for (line, at), sight in zip(spots, sights):
        least[line][at] = sight.least()
    if not case.look_same(log, least, places):
        return least
    # A log that looks different does so by one secret alone, whatever the others are.
    best = None
    for (line, at), sight in zip(spots, sights):
        word = sight.least_unlike_before(least[line][at], word_behind(log[line], at))
        if word is not None:
            best = lesser_log(best, _replaced(least, (line, at), word))
    return best


def need_hidden(case, places):
    """Raise Shown with the least two logs that are alike but for secrets and look different, if there are any."""
    log = first_shown(case, places)
    if log is not None:
        raise Shown((log, other_log(case, places, log)))


def still_paper(case, places):
    """Return the right still paper for the views at some places, or None if there is none."""
    if first_shown(case, places) is not None:
        return None
    paper = {}
    for ahead in atlas_of(case).aheads():
        word = atlas_of(case).sight(ahead, places).least()
        if word is not None:
            paper[ahead] = [shown(case.views[place], ahead, word) for place in places]
    return paper


def is_still_paper(case, places, value):
    """Return whether any value is a right still paper for the views at some places."""
    paper = still_paper(case, places)
    return paper is not None and isinstance(value, dict) and value == paper
