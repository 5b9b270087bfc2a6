"""Characters, words, shown words, lines and logs, and the order of words and logs."""

LETTERS = "abcdefghijklmnopqrstuvwxyz"
DIGITS = "0123456789"
CHARACTERS = "-0123456789abcdefghijklmnopqrstuvwxyz"
PLACE_OF = {
    "-": 0, "0": 1, "1": 2, "2": 3, "3": 4, "4": 5, "5": 6, "6": 7, "7": 8, "8": 9, "9": 10, "a": 11,
    "b": 12, "c": 13, "d": 14, "e": 15, "f": 16, "g": 17, "h": 18, "i": 19, "j": 20, "k": 21, "l": 22,
    "m": 23, "n": 24, "o": 25, "p": 26, "q": 27, "r": 28, "s": 29, "t": 30, "u": 31, "v": 32, "w": 33,
    "x": 34, "y": 35, "z": 36,
}
SHOWN_CHARACTERS = "*-0123456789abcdefghijklmnopqrstuvwxyz"


def _is_made_of(characters, value):
    # What strip leaves of a string begins with a character that is none of these.
    return isinstance(value, str) and value != "" and value.strip(characters) == ""


def is_word(value):
    """Return whether any value is a word."""
    return _is_made_of(CHARACTERS, value)


def is_shown(value):
    """Return whether any value is a shown word."""
    return _is_made_of(SHOWN_CHARACTERS, value)


def is_line(value):
    """Return whether any value is a line."""
    return isinstance(value, list) and all([is_word(word) for word in value])


def is_log(value):
    """Return whether any value is a log."""
    return isinstance(value, list) and all([is_line(line) for line in value])


def word_key(word):
    """Return a tuple by which Python sorts words: shorter ones first."""
    return (len(word), word)


def lesser_word(first, second):
    """Return the lesser one of two words, each of which may be None."""
    if first is None or (second is not None and word_key(second) < word_key(first)):
        return second
    return first


def log_key(log):
    """Return a tuple by which Python sorts logs: fewer lines, words and characters first."""
    words = [word for line in log for word in line]
    many_chars = sum([len(word) for word in words])
    # Tuples compare as lists do, and the key stays as it is when the log is changed.
    return (len(log), len(words), many_chars, tuple([tuple(line) for line in log]))


def lesser_log(first, second):
    """Return the lesser one of two logs, each of which may be None."""
    if first is None or (second is not None and log_key(second) < log_key(first)):
        return second
    return first
