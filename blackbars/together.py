"""Which readers know together among how few words a secret is hidden."""

from itertools import combinations

from blackbars.cases import check_number
from blackbars.fewest import first_fewer


def _least_sets(case, number):
    """Return the list of the tuples (places, log, spot, many) for the least sets of views, in order."""
    found = []
    for size in range(len(case.views) + 1):
        for places in combinations(range(len(case.views)), size):
            # Who sees more views does not know less.
            if any([all([place in places for place in row[0]]) for row in found]):
                continue
            fewer = first_fewer(case, list(places), number)
            if fewer is not None:
                found.append((places, fewer[0], fewer[1], fewer[2]))
    return found


def sets_below(case, number):
    """Return the list of the least tuples of places of views for which a secret is hidden among fewer words."""
    check_number(number)
    return [row[0] for row in _least_sets(case, number)]


def together(case, number):
    """Return the list of the tuples (places, log, spot, many) for the tuples of sets_below, with first_fewer."""
    check_number(number)
    return _least_sets(case, number)
