"""Webs: dicts from each cell to a dict of the cells to which a step leads from it, all of them in the web."""


def turned_web(web):
    """The web with each step turned about."""
    turned = {}
    for cell in web:
        turned[cell] = {}
    for cell in web:
        for other in web[cell]:
            turned[other][cell] = True
    return turned


def part_of_web(web, cells):
    """The web of some of its cells alone, and of the steps between them."""
    part = {}
    for cell in cells:
        part[cell] = {}
    for cell in cells:
        for other in web[cell]:
            if other in part:
                part[cell][other] = True
    return part


def ways_from(starts, web):
    """A dict from each cell to which a way leads from a start, nearest first, to the cell ahead of it on a shortest
    one; from a start to None."""
    ahead = {}
    for start in starts:
        ahead[start] = None
    found = list(ahead)
    place = 0
    while place < len(found):
        cell = found[place]
        place += 1
        for other in web[cell]:
            if other not in ahead:
                ahead[other] = cell
                found.append(other)
    return ahead


def way_back(cell, ahead):
    """The list of the cells from a cell on, each followed by the one ahead of it, to the start."""
    way = []
    while cell is not None:
        way.append(cell)
        cell = ahead[cell]
    return way


def finish_from(start, web, seen, finished):
    """Puts the cells that weren't seen and to which a way leads from a start behind the finished ones, deepest first:
    where one leads to another and no way leads back, the other comes first."""
    waiting = [(start, False)]
    while len(waiting) > 0:
        step = waiting.pop()
        cell = step[0]
        if step[1]:
            finished.append(cell)
        elif cell not in seen:
            seen[cell] = True
            waiting.append((cell, True))
            waiting.extend([(other, False) for other in web[cell] if other not in seen])


def finished_cells(web):
    """The cells of a web, deepest first."""
    seen = {}
    finished = []
    for cell in web:
        finish_from(cell, web, seen, finished)
    return finished


def gathered_from(start, web, gathered):
    """The sorted list of the cells that weren't gathered yet and to which a way of such cells leads from a start; they
    are gathered then."""
    group = []
    waiting = [start]
    while len(waiting) > 0:
        cell = waiting.pop()
        if cell not in gathered:
            gathered[cell] = True
            group.append(cell)
            waiting.extend([other for other in web[cell] if other not in gathered])
    return sorted(group)


def groups_of(web):
    """The list of the groups of a web: sorted lists of all cells from each of which a way leads to each other one; each
    group behind those to which it leads."""
    turned = turned_web(web)
    gathered = {}
    groups = []
    # Taken from the last finished one on, ways turned about lead only into its own group and into those behind which
    # it was finished, which are gathered already.
    for cell in reversed(finished_cells(web)):
        if cell not in gathered:
            groups.append(gathered_from(cell, turned, gathered))
    groups.reverse()
    return groups


def closed_walk(web):
    """A walk along the steps of a web, from each cell of which a way leads to each: it goes through all of them, and
    from its last cell a step leads to its first."""
    start = list(web)[0]
    forth = ways_from([start], web)
    back = ways_from([start], turned_web(web))
    walk = [start]
    walked = {start: True}
    # Farthest first: the way there and back goes through many nearer ones.
    for cell in reversed(list(forth)):
        if cell not in walked:
            way = way_back(cell, forth)
            way.reverse()
            way.extend(way_back(cell, back)[1:])
            walk.extend(way[1:])
            for other in way:
                walked[other] = True
    # The walk has come back to its start, to which the last step leads of itself.
    return walk if len(walk) == 1 else walk[:-1]
