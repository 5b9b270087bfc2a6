"""Machines that read words character by character and mark each word with an integer.

The states are numbered in the order of the least words that lead to them, the state 0 first, where
no character has been read; so two machines without states that could be one are equal exactly if
they mark all words alike.
"""

from blackbars.strips import Strips
from blackbars.words import CHARACTERS

MOST_STATES = 3000


class Machine:
    """Groups of characters that are treated alike, a row of moves (one a group) and a mark for each state."""

    def __init__(self, groups, moves, marks):
        self.groups = groups
        self.moves = moves
        self.marks = marks
        self.group_of = {char: at for at, group in enumerate(groups) for char in group}

    def run(self, state, word):
        """Return the state that a word leads to from a state."""
        for char in word:
            state = self.moves[state][self.group_of[char]]
        return state


def _fates(machine, as_first, keep):
    """Return for each state what all pairs with it come to: -1 if nothing is kept from then on, -2 if all, else 0."""
    found = []
    for state, row in enumerate(machine.moves):
        mark = machine.marks[state]
        kept = (keep[2 * mark], keep[2 * mark + 1]) if as_first else (keep[mark], keep[2 + mark])
        if kept[0] == kept[1] and row[0] == state and row == [state] * len(row):
            found.append(-2 if kept[0] else -1)
        else:
            found.append(0)
    return found


def _common_groups(first, second):
    """Return the groups that two machines both treat alike, and for each of them its groups in the two."""
    groups = {}
    for char in CHARACTERS:
        key = (first.group_of[char], second.group_of[char])
        groups[key] = groups.get(key, "") + char
    return list(groups.values()), list(groups.keys())


def _pairs(first, second, first_fates, second_fates):
    """Return the groups, the keys and the moves of the states that two machines come to together.

    A key is that of both states, or a fate: a pair with a fate is not followed any further.
    """
    groups, group_pairs = _common_groups(first, second)
    many = len(second.moves)
    keys = [first_fates[0] or second_fates[0]]
    number = {keys[0]: 0}
    moves = []
    while len(moves) < len(keys):
        key = keys[len(moves)]
        if key < 0:
            moves.append([len(moves)] * len(groups))
            continue
        first_state, second_state = divmod(key, many)
        first_row, second_row = first.moves[first_state], second.moves[second_state]
        row = []
        for first_group, second_group in group_pairs:
            one, other = first_row[first_group], second_row[second_group]
            further = first_fates[one] or second_fates[other] or one * many + other
            if further not in number:
                number[further] = len(keys)
                keys.append(further)
            row.append(number[further])
        moves.append(row)
    return groups, keys, moves


def paired(first, second, keep):
    """Return the machine of two with marks 0 and 1; keep has the new mark for 0 and 0, 0 and 1, 1 and 0, 1 and 1."""
    first_fates, second_fates = _fates(first, True, keep), _fates(second, False, keep)
    groups, keys, moves = _pairs(first, second, first_fates, second_fates)
    marks = []
    for key in keys:
        first_state, second_state = divmod(key, len(second.moves))
        if key < 0:
            marks.append(1 if key == -2 else 0)
        else:
            marks.append(keep[2 * first.marks[first_state] + second.marks[second_state]])
    return Machine(groups, moves, marks)


def all_sources(moves):
    """Return for each state the list of the states from which a character leads to it."""
    found = [[] for _ in moves]
    for state, row in enumerate(moves):
        for target in sorted(set(row)):
            found[target].append(state)
    return found


def _first_blocks(marks):
    number = {}
    for mark in marks:
        number.setdefault(mark, len(number))
    return [number[mark] for mark in marks]


def _split(moves, blocks, touched):
    """Return for each block that has touched states these states, in lists by the blocks that they move to."""
    parts = {}
    for state in touched:
        key = (blocks[state], tuple([blocks[target] for target in moves[state]]))
        parts.setdefault(key, []).append(state)
    found = {}
    for key, states in parts.items():
        found.setdefault(key[0], []).append(states)
    return found


def _blocks(moves, marks):
    """Return for each state the number of its block: the states that mark alike whatever follows."""
    blocks = list(_first_blocks(marks))
    sizes = [0] * (max(blocks) + 1)
    for block in blocks:
        sizes[block] = sizes[block] + 1
    sources = all_sources(moves)
    changed = list(range(len(moves)))
    while changed:
        touched = {source: True for state in changed for source in sources[state]}
        fresh = []
        for block, parts in _split(moves, blocks, touched).items():
            largest = max([len(part) for part in parts])
            # States that are not touched stay together, as they moved alike before and still do.
            has_stayed = sizes[block] > sum([len(part) for part in parts])
            for part in parts:
                if not has_stayed and len(part) == largest:
                    has_stayed = True
                    continue
                sizes[block] = sizes[block] - len(part)
                for state in part:
                    blocks[state] = len(sizes)
                sizes.append(len(part))
                fresh.extend(part)
        changed = fresh
    return blocks


def _merged_groups(groups, moves):
    """Return the groups that all states treat alike, and the rows of moves for them."""
    places = {}
    for at in range(len(groups)):
        places.setdefault(tuple([row[at] for row in moves]), []).append(at)
    merged = ["".join(sorted("".join([groups[at] for at in alike]))) for alike in places.values()]
    columns = list(places.keys())
    return merged, [[column[state] for column in columns] for state in range(len(moves))]


def least_machine(machine, marks):
    """Return the machine with the fewest states that marks words as a machine would with other marks."""
    blocks = _blocks(machine.moves, marks)
    number = {}
    kept = []
    for state, block in enumerate(blocks):
        if block not in number:
            number[block] = len(kept)
            kept.append(state)
    moves = [[number[blocks[target]] for target in machine.moves[state]] for state in kept]
    groups, merged = _merged_groups(machine.groups, moves)
    return Machine(groups, merged, [marks[state] for state in kept])


def _within(strips, limit):
    """Return the machine of some strips, or None if it has more states than a limit."""
    ends = sum(strips.ends)
    # The places before the first character may be met again behind one, but the empty word is no word.
    all_places = [strips.first]
    number = {}
    moves = []
    while len(moves) < len(all_places):
        if limit is not None and len(all_places) > limit:
            return None
        row = []
        for further in strips.after(all_places[len(moves)]):
            if further not in number:
                number[further] = len(all_places)
                all_places.append(further)
            row.append(number[further])
        moves.append(row)
    return Machine(strips.groups, moves, [0] + [places & ends for places in all_places[1:]])


def _side_by_side(first, second, first_bits, second_bits):
    """Return the machine of two with the marks of both, and the list of the bits of both."""
    groups, keys, moves = _pairs(first, second, [0] * len(first.moves), [0] * len(second.moves))
    shift = max(first_bits).bit_length()
    states = [divmod(key, len(second.moves)) for key in keys]
    marks = [first.marks[one] | (second.marks[other] << shift) for one, other in states]
    return Machine(groups, moves, marks), first_bits + [bit << shift for bit in second_bits]


def shapes_machine(shapes):
    """Return a machine whose marks have a bit for each shape of a list that the word fits, and the list of the bits.

    The runs of the shapes may be longer than those that a caller may pass.
    """
    strips = Strips(shapes)
    machine = _within(strips, MOST_STATES if len(shapes) > 1 else None)
    if machine is not None:
        return machine, strips.ends
    # Many sets of places may come to the same; the fewest states of fewer shapes tell that before they multiply.
    half = len(shapes) // 2
    first, first_bits = shapes_machine(shapes[:half])
    second, second_bits = shapes_machine(shapes[half:])
    return _side_by_side(
        least_machine(first, first.marks), least_machine(second, second.marks), first_bits, second_bits)
