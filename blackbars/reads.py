"""Which words an act shows as a text, told as shapes, whose runs may be longer than those that are passed."""

from blackbars.words import is_word

EVERY = (("any", 1, None),)
ANYTHING = ("any", 0, None)


def exact_shape(word):
    """Return the shape of one word."""
    return (("text", word),)


def begin_shape(word):
    """Return the shape of the words that begin with a word."""
    return (("text", word), ANYTHING)


def end_shape(word):
    """Return the shape of the words that end with a word."""
    return (ANYTHING, ("text", word))


def size_shape(size):
    """Return the shape of the words with so many characters."""
    return (("any", size, size),)


def _cut_shape(most, part, shape):
    # Fewer characters than the act shows at most are all that the word has.
    if not is_word(part) or len(part) > most:
        return None
    return exact_shape(part) if len(part) < most else shape


def text_shape(act, text):
    """Return the shape of the words that an act shows as a text, or None if there is none."""
    kind = act[0]
    if kind == "put":
        return EVERY if act[1] == text else None
    if kind == "keep":
        return exact_shape(text) if is_word(text) else None
    if kind == "stars":
        return size_shape(len(text)) if text.strip("*") == "" else None
    if kind == "first" and text[-1] == "*":
        return _cut_shape(act[1], text[:-1], begin_shape(text[:-1]))
    if kind == "last" and text[0] == "*":
        return _cut_shape(act[1], text[1:], end_shape(text[1:]))
    return None


def shown_shape(act, shown_words):
    """Return the shape of the words of which an act shows a list ([] or [shown word]), or None."""
    if len(shown_words) == 1:
        return text_shape(act, shown_words[0])
    return EVERY if len(shown_words) == 0 and act == ("out",) else None
