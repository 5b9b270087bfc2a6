"""Where a secret is hidden among the fewest words."""

from blackbars.atlas import atlas_of
from blackbars.cases import MOST_NUMBER, ahead_of, check_number, word_behind
from blackbars.sparse import least_below, least_many
from blackbars.words import lesser_log, lesser_word, word_key


def _told_groups(names, other, many, kinds):
    """Return tuples (least word, how many) for the groups of secrets that a word behind them tells apart.

    The secrets are so many, hidden together before no word; some are named, and other is the least other one.
    """
    groups = {}
    for name in names:
        groups.setdefault(kinds[name], []).append(name)
    found = [(group[0], len(group)) for known, group in groups.items() if known != kinds[None]]
    rest = groups.get(kinds[None], [])
    if many is not None and many > len(names) - len(rest):
        found.append((lesser_word(rest[0] if rest else None, other), many - len(names) + len(rest)))
    return found


def _all_told_apart(sight):
    found = []
    if not sight.furthers():
        return found
    for names in sight.names_together():
        part = sight.part_of(names[0])
        many, other = part.how_many(names[0]), sight.least_other(part.lot_like(names[0]))
        for further, kinds in sight.furthers():
            found.extend([(word, further, size) for word, size in _told_groups(names, other, many, kinds)])
    return found


def _told_apart(sight):
    """Return tuples (word, further word, how many) for secrets that a word behind them tells apart from others."""
    if "told apart" not in sight.worked_out:
        sight.worked_out["told apart"] = _all_told_apart(sight)
    return sight.worked_out["told apart"]


def _begin(ahead):
    return [] if ahead == "" else [ahead]


def _least_alone(sight, ahead, number):
    """Return the least log that ends with a secret behind a word that is hidden among fewer words, or None."""
    word = None
    for least, kinds in sight.least_kinds():
        # All words of this part, and of those behind it, come behind its least one.
        if word is not None and word_key(word) < word_key(least):
            break
        # What is kept is hidden alone.
        found = least if ("keep", 0) in kinds else least_below(sight.part_with(kinds), number)
        word = lesser_word(word, found)
    return None if word is None else [_begin(ahead) + [word]]


def _least_before(sight, ahead, number):
    """Return the least log with such a secret and a word behind it that tells it apart from others, or None."""
    best = None
    for found, further, many in _told_apart(sight):
        if many < number:
            best = lesser_log(best, [_begin(ahead) + [found, further]])
    return best


def _least_log(case, places, number):
    sights = [(ahead, atlas_of(case).sight(ahead, places)) for ahead in atlas_of(case).aheads()]
    best = None
    for ahead, sight in sights:
        best = lesser_log(best, _least_alone(sight, ahead, number))
    for ahead, sight in sights:
        # What a further word tells is asked for only where the log is not too long for that.
        if best is None or len(best[0]) >= len(_begin(ahead)) + 2:
            best = lesser_log(best, _least_before(sight, ahead, number))
    return best


def first_fewer(case, places, number):
    """Return (log, spot, many) for the least log with a secret hidden among fewer words than a number, or None."""
    check_number(number)
    case.check_places(places)
    # The word that stands there is always one of those that could.
    best = _least_log(case, places, number) if number > 1 else None
    if best is None:
        return None
    line, at = case.places(best)[0]
    sight = atlas_of(case).sight(ahead_of(best[line], at), places)
    return best, (line, at), sight.how_many(best[line][at], word_behind(best[line], at))


def least_number(case, places):
    """Return the least number among how many words a secret is hidden, or None if it is more than 999 for all."""
    case.check_places(places)
    least = MOST_NUMBER
    for ahead in atlas_of(case).aheads():
        sight = atlas_of(case).sight(ahead, places)
        for part in sight.parts():
            many = least_many(part, least)
            least = least if many is None else many
        least = min([least] + [many for _, _, many in _told_apart(sight)])
    return least if least < MOST_NUMBER else None
