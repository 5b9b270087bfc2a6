"""How many looks secrets can have for one view."""

from blackbars.atlas import atlas_of
from blackbars.cases import check_number
from blackbars.sparse import steps_between, sum_at


def _few_sizes(part, number):
    """Return how many sizes fewer words of a part have than a number, but at least one; None for endless."""
    steps, again = steps_between(part, 0, number)
    are_few = [0 < sum_at(counts, part.goals_before("")) < number for counts in steps]
    return None if any(are_few[again:]) else are_few.count(True)


def _all_sizes(part):
    if part.lot.count() is None:
        return None
    steps, _ = steps_between(part, 0, 1)
    return len([counts for counts in steps if sum_at(counts, part.goals_before("")) > 0])


def _all_looks(part):
    """Return how many looks the words of a part have, None for endless."""
    if part.keeps:
        return part.lot.count()
    if part.is_sized:
        return _all_sizes(part)
    return sum([many for _, many in part.all_begins().values()]) * sum([many for _, many in part.all_ends().values()])


def _looks_below(part, number):
    """Return how many looks fewer words of a part have than a number, None for endless."""
    if part.keeps:
        return part.lot.count() if number > 1 else 0
    if part.is_sized:
        return _few_sizes(part, number)
    found = 0
    for state, (_, begins) in part.all_begins().items():
        for goals, (_, ends) in part.all_ends().items():
            many = part.between(state, goals)
            if many is not None and 0 < many < number:
                found += begins * ends
    return found


def _sum_of(numbers):
    return None if None in numbers else sum(numbers)


def looks(case, ahead, place):
    """Return how many looks a secret behind a word (or "") can have for the view at a place, None for endless."""
    case.check_places([place])
    return _sum_of([_all_looks(part) for part in atlas_of(case).sight(ahead, [place]).parts()])


def looks_below(case, ahead, place, number):
    """Return how many of the looks fewer words than a number have, None for endless."""
    case.check_places([place])
    check_number(number)
    return _sum_of([_looks_below(part, number) for part in atlas_of(case).sight(ahead, [place]).parts()])
