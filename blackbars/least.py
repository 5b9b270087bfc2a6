"""The fewest states and groups of characters by which words are marked alike."""

ROUNDS = 8
MOST_AT_ONCE = 1000


def all_sources(moves):
    """Return for each state the list of the states from which a character leads to it."""
    found = [[] for _ in moves]
    for state, row in enumerate(moves):
        for target in {target: True for target in row}:
            found[target].append(state)
    return found


def _split(moves, blocks, touched):
    """Return for each block that has touched states these states, in lists by the blocks that they move to."""
    parts = {}
    for state in touched:
        key = (blocks[state], tuple([blocks[target] for target in moves[state]]))
        parts.setdefault(key, []).append(state)
    found = {}
    for key, states in parts.items():
        found.setdefault(key[0], []).append(states)
    return found


def _finished(moves, begun):
    """Return the blocks that blocks come to which are parted until states of one block move to the same blocks."""
    blocks = list(begun)
    sizes = [0] * (max(blocks) + 1)
    for block in blocks:
        sizes[block] = sizes[block] + 1
    sources = all_sources(moves)
    changed = list(range(len(moves)))
    while changed:
        touched = {source: True for state in changed for source in sources[state]}
        fresh = []
        for block, parts in _split(moves, blocks, touched).items():
            largest = max([len(part) for part in parts])
            # States that are not touched stay together, as they moved alike before and still do.
            has_stayed = sizes[block] > sum([len(part) for part in parts])
            for part in parts:
                if not has_stayed and len(part) == largest:
                    has_stayed = True
                    continue
                sizes[block] = sizes[block] - len(part)
                for state in part:
                    blocks[state] = len(sizes)
                sizes.append(len(part))
                fresh.extend(part)
        changed = fresh
    return blocks


def _numbered(keys):
    """Return a number for each of some keys, the same one for equal keys, from 0 on."""
    number = {}
    found = []
    for key in keys:
        found.append(number.setdefault(key, len(number)))
    return found


def _blocks(moves, marks):
    """Return for each state the number of its block: the states that mark alike whatever follows."""
    blocks = _numbered(marks)
    if len(moves) > MOST_AT_ONCE:
        return _finished(moves, blocks)
    columns = list(zip(*moves))
    # Few rounds over all states are enough for most machines; what takes more is parted state by state.
    for _ in range(ROUNDS):
        many = max(blocks)
        told = [[blocks[target] for target in column] for column in columns]
        blocks = _numbered(list(zip(blocks, *told)))
        if max(blocks) == many:
            return blocks
    return _finished(moves, blocks)


def merged_tables(codes, moves):
    """Return the codes and the moves with one group for all groups of characters that all states treat alike."""
    columns = list(zip(*moves))
    firsts = {}
    for at, column in enumerate(columns):
        firsts.setdefault(column, at)
    if len(firsts) == len(columns):
        return codes, moves
    number = {column: at for at, column in enumerate(firsts)}
    fresh = [number[column] for column in columns]
    places = list(firsts.values())
    return [fresh[code] for code in codes], [[row[at] for at in places] for row in moves]


def least_tables(codes, moves, marks):
    """Return the codes, the moves and the marks with the fewest states and groups that mark words as these do."""
    blocks = _blocks(moves, marks)
    number = {}
    kept = []
    for state, block in enumerate(blocks):
        if block not in number:
            number[block] = len(kept)
            kept.append(state)
    if len(kept) < len(moves):
        order = [number[block] for block in blocks]
        moves = [[order[target] for target in moves[state]] for state in kept]
        marks = [marks[state] for state in kept]
    codes, moves = merged_tables(codes, moves)
    return codes, moves, marks
