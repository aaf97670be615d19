"""Different parts: each is told by which of them it is at 2 n and at 2 n + 1, and by its value at 0.

They tell functions with few different parts, and sets of numbers, whose parts are 1 at members and 0 elsewhere.
"""


# So often all parts are told apart by their halves; where that is not enough, some of them differ late.
ROUNDS = 16


class Parts:
    """For each part the pair of the indexes of its halves, and its value at 0; the first part is the whole."""

    def __init__(self, halves, starts):
        self.halves = halves
        self.starts = starts


def merged(parts):
    """The same whole by parts that all differ, each of them a part of it, in the order in which they are found."""
    blocks = blocks_of(parts)
    found = [0]
    places = {blocks[0]: 0}
    halves = []
    at = 0
    while at < len(found):
        old = found[at]
        at += 1
        pair = []
        for half in parts.halves[old]:
            if blocks[half] not in places:
                places[blocks[half]] = len(found)
                found.append(half)
            pair.append(places[blocks[half]])
        halves.append((pair[0], pair[1]))
    return Parts(halves, [parts.starts[kept] for kept in found])


def blocks_of(parts):
    """For each part a number that is the same for just those parts that do not differ."""
    blocks = soon_parted(parts)
    return parted_at_last(parts) if blocks is None else blocks


def soon_parted(parts):
    """The same, None where parts differ so late that another way is quicker."""
    blocks = parts.starts
    many = 1
    for _ in range(ROUNDS):
        places = {}
        further = []
        for block, (even, odd) in zip(blocks, parts.halves):
            mark = (block, blocks[even], blocks[odd])
            if mark not in places:
                places[mark] = len(places)
            further.append(places[mark])
        if len(places) in (many, len(blocks)):
            return further
        blocks = further
        many = len(places)
    return None


def parted_at_last(parts):
    """The same, for parts that may differ as late as there are many of them."""
    # At first parts are told apart by their values at 0 alone, then by their halves, until nothing is parted any more.
    blocks = list(parts.starts)
    members = {
        0: [at for at, start in enumerate(parts.starts) if start == 0],
        1: [at for at, start in enumerate(parts.starts) if start == 1],
    }
    sources = [sources_by(parts, digit) for digit in (0, 1)]
    waiting = [0, 1]
    while waiting:
        splitting = members[waiting.pop()]
        for latest, earlier in sources:
            sent = sources_among(splitting, latest, earlier)
            parted = parted_blocks(sent, blocks, members)
            for block in parted:
                inside = [at for at in members[block] if at in sent]
                outside = [at for at in members[block] if at not in sent]
                few, many = (inside, outside) if len(inside) < len(outside) else (outside, inside)
                # If the block itself is waiting, both halves of it are to come; if not, the lesser one is enough.
                further = len(members)
                waiting.append(further)
                members[block] = many
                members[further] = few
                for at in few:
                    blocks[at] = further
    return blocks


def sources_by(parts, digit):
    """For each part the last one of which it is this half, and the one before it that has the same half."""
    latest = [None for _ in parts.halves]
    earlier = [None for _ in parts.halves]
    for at, pair in enumerate(parts.halves):
        earlier[at] = latest[pair[digit]]
        latest[pair[digit]] = at
    return latest, earlier


def sources_among(members, latest, earlier):
    """The parts one half of which is among the members."""
    found = {}
    for at in members:
        source = latest[at]
        while source is not None:
            found[source] = True
            source = earlier[source]
    return found


def parted_blocks(sent, blocks, members):
    """The blocks of which some members are among those sent and some are not."""
    counts = {}
    for at in sent:
        counts[blocks[at]] = counts.get(blocks[at], 0) + 1
    return [block for block in counts if counts[block] < len(members[block])]


def paired(first, second, kept, most):
    """The parts that are 1 where the pair of what two sets have is one that is kept.

    None if there are more than `most` different pairs of parts.
    """
    pairs = [(0, 0)]
    places = {(0, 0): 0}
    halves = []
    at = 0
    while at < len(pairs):
        one, other = pairs[at]
        at += 1
        row = []
        for pair in zip(first.halves[one], second.halves[other]):
            if pair not in places:
                if len(pairs) == most:
                    return None
                places[pair] = len(pairs)
                pairs.append(pair)
            row.append(places[pair])
        halves.append((row[0], row[1]))
    return Parts(halves, [1 if (first.starts[one], second.starts[other]) in kept else 0 for one, other in pairs])


def is_within(first, second):
    """Whether all members of the first set are in the second one."""
    pairs = [(0, 0)]
    seen = {(0, 0): True}
    while pairs:
        one, other = pairs.pop()
        if first.starts[one] > second.starts[other]:
            return False
        for pair in zip(first.halves[one], second.halves[other]):
            if pair not in seen:
                seen[pair] = True
                pairs.append(pair)
    return True


def member_parts(members, most):
    """The parts of the set with these ascending members, None if there are more than `most`."""
    rows = [members]
    places = {members: 0}
    halves = []
    at = 0
    while at < len(rows):
        pair = []
        for digit in (0, 1):
            row = tuple([member >> 1 for member in rows[at] if member & 1 == digit])
            if row not in places:
                if len(rows) == most:
                    return None
                places[row] = len(rows)
                rows.append(row)
            pair.append(places[row])
        halves.append((pair[0], pair[1]))
        at += 1
    return Parts(halves, [1 if row[:1] == (0,) else 0 for row in rows])
