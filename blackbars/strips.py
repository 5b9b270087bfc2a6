"""Shapes laid out side by side, character by character, in the bits of integers.

A cell takes one character of a word. The place k stands before the cell k, and behind the last
cell of each shape there is one more place, its end. The places that a word can have got to are
kept together as bits, so that all ways to cut the word, in all shapes, are followed at once.
"""

from blackbars.words import CHARACTERS, DIGITS, LETTERS

# For each character, in order, a sign that is none: for letters, for digits and for any other.
ALL_KINDS = "ADDDDDDDDDDLLLLLLLLLLLLLLLLLLLLLLLLLL"
LETTERS_APART = "AAAAAAAAAAALLLLLLLLLLLLLLLLLLLLLLLLLL"
DIGITS_APART = "ADDDDDDDDDDAAAAAAAAAAAAAAAAAAAAAAAAAA"
NONE_APART = "AAAAAAAAAAAAAAAAAAAAAAAAAAAAAAAAAAAAA"


def _kind_of(char):
    if char in LETTERS:
        return "letters"
    if char in DIGITS:
        return "digits"
    return "any"


def _keys(shapes):
    """Return for each character a key that is the same for characters that the shapes treat alike."""
    runs = [run for shape in shapes for run in shape]
    texts = "".join([run[1] for run in runs if run[0] == "text"])
    kinds = [run[0] for run in runs if run[0] != "text"]
    if "letters" in kinds:
        keys = ALL_KINDS if "digits" in kinds else LETTERS_APART
    else:
        keys = DIGITS_APART if "digits" in kinds else NONE_APART
    if texts:
        return [char if char in texts else key for char, key in zip(CHARACTERS, keys)]
    return list(keys)


class Strips:
    """Some shapes side by side; their runs may be longer than those that a caller may pass."""

    def __init__(self, shapes):
        keys = _keys(shapes)
        groups = {}
        for char, key in zip(CHARACTERS, keys):
            groups[key] = groups.get(key, "") + char
        # The groups of characters that the shapes treat alike, by least characters, and the group of each character.
        self.groups = list(groups.values())
        number = {key: at for at, key in enumerate(groups)}
        self.codes = [number[key] for key in keys]
        self.first = 0
        self.ends = []
        # Cells that may be left out; cells that a character leads behind; cells that it leaves one at.
        self.optional = 0
        self._takes = {}
        self._stays = {}
        at = 0
        for shape in shapes:
            self.first = self.first | (1 << at)
            for run in shape:
                at = self._lay_run(run, at)
            self.ends.append(1 << at)
            at += 1
        self.first = self._with_left_out(self.first)
        self.takes = [self._cells_for(self._takes, group[0]) for group in self.groups]
        self.stays = [self._cells_for(self._stays, group[0]) for group in self.groups]

    def _lay_run(self, run, at):
        if run[0] == "text":
            for char in run[1]:
                self._takes[char] = self._takes.get(char, 0) | (1 << at)
                at += 1
            return at
        kind, low, high = run
        many = low if high is None else high
        self._takes[kind] = self._takes.get(kind, 0) | (((1 << many) - 1) << at)
        if high is None:
            self._stays[kind] = self._stays.get(kind, 0) | (1 << (at + low))
            self.optional = self.optional | (1 << (at + low))
            return at + low + 1
        self.optional = self.optional | (((1 << (high - low)) - 1) << (at + low))
        return at + high

    def _cells_for(self, cells, char):
        return cells.get("any", 0) | cells.get(_kind_of(char), 0) | cells.get(char, 0)

    def _with_left_out(self, places):
        # The sum carries each place through all cells behind it that may be left out, to the next place.
        return places | ((self.optional + (places & self.optional)) ^ self.optional)

    def after(self, places):
        """Return the list of the places that one more character leads to, for each group of characters."""
        found = []
        for takes, stays in zip(self.takes, self.stays):
            moved = ((places & takes) << 1) | (places & stays)
            found.append(self._with_left_out(moved))
        return found
