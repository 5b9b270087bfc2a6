"""Which words could stand in the place of a secret, and among how many it is hidden."""

from blackbars.atlas import atlas_of
from blackbars.cases import ahead_of, word_behind


def secret_lot(case, ahead):
    """Return the lot of the words that are secret behind a word (or "")."""
    return atlas_of(case).sight(ahead, []).all_secrets()


def words_for(case, log, spot, places):
    """Return the lot of the words for a secret place of a log, for the views at some places."""
    case.check_spot(log, spot)
    case.check_places(places)
    line, at = log[spot[0]], spot[1]
    return atlas_of(case).sight(ahead_of(line, at), places).words(line[at], word_behind(line, at))


def hidden(case, log, spot, places):
    """Return among how many words a secret of a log is hidden for the views at some places, None for endless."""
    case.check_spot(log, spot)
    case.check_places(places)
    line, at = log[spot[0]], spot[1]
    return atlas_of(case).sight(ahead_of(line, at), places).how_many(line[at], word_behind(line, at))
