"""Machines that read words character by character and mark each word with an integer.

The states are numbered in the order of the least words that lead to them, the state 0 first, where
no character has been read. All states are led to by some word.
"""

from blackbars.least import least_tables, merged_tables
from blackbars.strips import Strips
from blackbars.words import CHARACTERS, PLACE_OF

MOST_STATES = 3000
FAR = 1000000000000000


class Machine:
    """The number of the group of each character, a row of moves (one a group) and a mark for each state."""

    def __init__(self, codes, moves, marks):
        self.codes = codes
        self.moves = moves
        self.marks = marks

    def run(self, state, word):
        """Return the state that a word leads to from a state."""
        for char in word:
            state = self.moves[state][self.codes[PLACE_OF[char]]]
        return state


def least_machine(machine, marks):
    """Return the machine with the fewest states that marks words as a machine would with other marks."""
    codes, moves, kept = least_tables(machine.codes, machine.moves, marks)
    return Machine(codes, moves, kept)


def char_groups(codes):
    """Return the list of the groups of characters, as strings: those with the same code are treated alike."""
    found = [""] * (max(codes) + 1)
    for char, code in zip(CHARACTERS, codes):
        found[code] = found[code] + char
    return found


def _common_groups(first, second):
    """Return the codes of the groups that two machines both treat alike, and the groups of each for them."""
    pairs = list(zip(first.codes, second.codes))
    kinds = list({pair: True for pair in pairs})
    number = {pair: at for at, pair in enumerate(kinds)}
    return [number[pair] for pair in pairs], [pair[0] for pair in kinds], [pair[1] for pair in kinds]


def _names(machine, many, deciding):
    """Return for each state so many times its number; for one that keeps a deciding mark, a number far below 0."""
    names = [many * state for state in range(len(machine.moves))]
    for state, row in enumerate(machine.moves):
        if row[0] == state and machine.marks[state] == deciding and row == [state] * len(row):
            names[state] = -FAR
    return names


def _pairs(first, second, deciding):
    """Return the codes, the keys and the moves of the pairs of states that two machines come to together.

    Deciding are two marks, or None: a pair of a state that keeps this mark has the key -1 and is followed no
    further. Others have the key of the first state times all of the second machine, and of the second state.
    """
    codes, first_groups, second_groups = _common_groups(first, second)
    many = len(second.moves)
    names = _names(first, many, deciding[0])
    other_names = _names(second, 1, deciding[1])
    # Rows of names for the common groups, of the states that are come to.
    rows = [None] * len(first.moves)
    other_rows = [None] * many
    keys = [max(names[0] + other_names[0], -1)]
    number = {keys[0]: 0}
    moves = []
    while len(moves) < len(keys):
        if keys[len(moves)] < 0:
            moves.append([len(moves)] * len(first_groups))
            continue
        state, other = divmod(keys[len(moves)], many)
        if rows[state] is None:
            rows[state] = [names[first.moves[state][group]] for group in first_groups]
        if other_rows[other] is None:
            other_rows[other] = [other_names[second.moves[other][group]] for group in second_groups]
        row = []
        for one, two in zip(rows[state], other_rows[other]):
            key = one + two if one + two >= 0 else -1
            if key not in number:
                number[key] = len(keys)
                keys.append(key)
            row.append(number[key])
        moves.append(row)
    return codes, keys, moves


def paired(first, second, keep, deciding):
    """Return the machine of two with marks 0 and 1; keep has the new mark for 0 and 0, 0 and 1, 1 and 0, 1 and 1.

    Whatever follows, the mark does not change any more where the first one keeps the first one of the deciding
    marks, or the second one the second one.
    """
    codes, keys, moves = _pairs(first, second, deciding)
    many = len(second.moves)
    decided = keep[2 * deciding[0]]
    marks = [keep[2 * first.marks[key // many] + second.marks[key % many]] if key >= 0 else decided for key in keys]
    codes, moves = merged_tables(codes, moves)
    return Machine(codes, moves, marks)


def are_equal(first, second):
    """Return whether two machines with marks 0 and 1 mark all words alike."""
    if first.codes == second.codes and first.moves == second.moves:
        return first.marks == second.marks
    groups = list({pair: True for pair in zip(first.codes, second.codes)})
    met = {(0, 0): True}
    todo = [(0, 0)]
    most = 4 * (len(first.moves) + len(second.moves))
    while todo:
        state, other = todo.pop()
        if first.marks[state] != second.marks[other]:
            return False
        if len(met) > most:
            # Where states multiply, it is told by the fewest states, which are numbered by least words.
            return least_tables(first.codes, first.moves, first.marks) == least_tables(
                second.codes, second.moves, second.marks)
        row, other_row = first.moves[state], second.moves[other]
        for group, other_group in groups:
            pair = (row[group], other_row[other_group])
            if pair not in met:
                met[pair] = True
                todo.append(pair)
    return True


def _within(strips, limit):
    """Return the machine of some strips, or None if it has more states than a limit."""
    ends = sum(strips.ends)
    # The places before the first character may be met again behind one, but the empty word is no word.
    all_places = [strips.first]
    number = {}
    moves = []
    while len(moves) < len(all_places):
        if limit is not None and len(all_places) > limit:
            return None
        row = []
        for further in strips.after(all_places[len(moves)]):
            if further not in number:
                number[further] = len(all_places)
                all_places.append(further)
            row.append(number[further])
        moves.append(row)
    return Machine(strips.codes, moves, [0] + [places & ends for places in all_places[1:]])


def _side_by_side(first, second, first_bits, second_bits):
    """Return the machine of two with the marks of both, and the list of the bits of both."""
    codes, keys, moves = _pairs(first, second, (None, None))
    shift = max(first_bits).bit_length()
    states = [divmod(key, len(second.moves)) for key in keys]
    marks = [first.marks[one] | (second.marks[other] << shift) for one, other in states]
    return Machine(codes, moves, marks), first_bits + [bit << shift for bit in second_bits]


def shapes_machine(shapes):
    """Return a machine whose marks have a bit for each shape of a list that the word fits, and the list of the bits.

    The runs of the shapes may be longer than those that a caller may pass.
    """
    strips = Strips(shapes)
    machine = _within(strips, MOST_STATES if len(shapes) > 1 else None)
    if machine is not None:
        return machine, strips.ends
    # Many sets of places may come to the same; the fewest states of fewer shapes tell that before they multiply.
    half = len(shapes) // 2
    first, first_bits = shapes_machine(shapes[:half])
    second, second_bits = shapes_machine(shapes[half:])
    return _side_by_side(
        least_machine(first, first.marks), least_machine(second, second.marks), first_bits, second_bits)
