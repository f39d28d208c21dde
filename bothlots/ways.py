"""Rows for all states of a way at once, by which a run shows what the way tells."""

from bothlots.witness import Scene


def scene_of_way(program, graph, way):
    """The scene with a row for each look of a way, and the places of the first and the last one of these rows.

    The way is one of short states with kept ticks, the shortest one; so no row gets in the way of the others.
    """
    between = [graph.link_between(way[at], way[at + 1]) for at in range(len(way) - 1)]
    first, last = graph.ends(way[-1][1], way[-1][2], way[-1][3])
    looks_of_rows = [first] + [graph.told(state)[2] for state in way[1:-1]] + [last]
    scene = Scene(program, first)
    rows = [scene.cast(first)]
    for at, (columns, _) in enumerate(between):
        rows.append(scene.cast(looks_of_rows[at + 1], rows[-1], columns))
    for at, tick in enumerate(program.columns_of("tick")):
        ranks = _ranks([order[at] for _, order in between], [state[4][at] for state in way[1:]])
        low = _lowest(program, tick, max(ranks[0], ranks[-1]))
        for number, row in enumerate(rows):
            row[tick] = low + ranks[number]
    places = _ranks([order[-1] for _, order in between], [state[4][-1] for state in way[1:]])
    for place in range(len(places)):
        scene.put(rows[places.index(place)])
    scene.put_partner(rows[0])
    scene.put_partner(rows[-1])
    return scene, [places[0], places[-1]]


def _lowest(program, tick, rank):
    """The least tick of a column; if the cut asks for it, that of this rank is the limit."""
    cut = program.step(program.cut_at)
    return cut[3] - rank if cut[1] == "before" and cut[2] == tick else 0


def _ranks(link_signs, signs_with_first):
    """For each row of a way its rank, with equal ranks only where the sign of the link is `=`.

    The signs are those of each row with the next one, and those of the first row with each other one.
    """
    # The ranks stand in a line, each one by a number of its own; that of the first row is 0.
    line = [0]
    numbers = [0]
    for sign, sign_with_first in zip(link_signs, signs_with_first):
        if sign == "=":
            numbers.append(numbers[-1])
        else:
            fresh = len(line)
            line.insert(_place(line.index(numbers[-1]), line.index(0), sign, sign_with_first), fresh)
            numbers.append(fresh)
    return [line.index(number) for number in numbers]


def _place(elder, first, sign, sign_with_first):
    """Where in the line the rank of a row comes, next to that of the elder row or of the first one."""
    if sign == "<":
        return max(elder, first) + 1 if sign_with_first == "<" else elder + 1
    return min(elder, first) if sign_with_first == ">" else elder
