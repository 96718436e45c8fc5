"""Stretches: tuples (low, high), the whole numbers from low to high."""


def joined_up(some):
    """The plain list of the numbers of some stretches."""
    plain = []
    for stretch in sorted(some):
        # Neighbours are one stretch too: no number lies between them.
        if len(plain) > 0 and stretch[0] <= plain[-1][1] + 1:
            last = plain.pop()
            plain.append((last[0], max(last[1], stretch[1])))
        else:
            plain.append(stretch)
    return plain


def rests_of(stretch, taken, first):
    """What is left of a stretch behind a plain list, whose stretches ahead of the first don't meet it."""
    rests = []
    low = stretch[0]
    place = first
    while place < len(taken) and taken[place][0] <= stretch[1]:
        if low < taken[place][0]:
            rests.append((low, taken[place][0] - 1))
        low = taken[place][1] + 1
        place += 1
    if low <= stretch[1]:
        rests.append((low, stretch[1]))
    return rests


def less_others(some, others):
    """The plain list of the numbers of some stretches that are in none of the others."""
    taken = joined_up(others)
    plain = []
    first = 0
    for stretch in joined_up(some):
        while first < len(taken) and taken[first][1] < stretch[0]:
            first += 1
        plain.extend(rests_of(stretch, taken, first))
    return plain
