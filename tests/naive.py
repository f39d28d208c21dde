"""The words of the document once more, written as plainly as can be, to hold the package against.

Nothing here is fast, and nothing of the package is used but the attributes of a program and its tests.
"""

import itertools

from bothlots.checks import holds
from bothlots.programs import Program


def sides_of(program):
    return {name: [(f"{name}.{column}", kind) for column, kind in columns] for name, _, columns in program.sides}


def joins_of(program):
    return [step for step in program.steps if step[0] in ("join", "left")]


def fan_of(program):
    return next((step for step in program.steps if step[0] == "fan"), None)


def tags(columns):
    return [(name, kind) for name, kind in columns if isinstance(kind, tuple)]


def own_signs(program):
    found = [name for name, _ in tags(program.main)]
    for _, side, _ in joins_of(program):
        found += [side] + [name for name, _ in tags(sides_of(program)[side])]
    return found


def signs(program):
    fan = fan_of(program)
    return own_signs(program) + ([name for name, _ in tags(sides_of(program)[fan[1]])] if fan else [])


def looks(program):
    """All tuples of values for the signs, less those that cannot be."""
    kinds = dict(tags(program.main))
    for columns in sides_of(program).values():
        kinds.update(dict(tags(columns)))
    names = signs(program)
    values = [list(kinds[name]) + ([None] if "." in name else []) if name in kinds else ["yes", "no"] for name in names]
    fan = fan_of(program)
    found = []
    for look in itertools.product(*values):
        row = dict(zip(names, look))
        right = all(row[name] is not None for name in names if fan and name.startswith(fan[1] + "."))
        for _, side, column in joins_of(program):
            right = right and all((row[name] is None) == (row[side] == "no") for name, _ in tags(sides_of(program)[side]))
            over = column.split(".")[0]
            right = right and not ("." in column and row[over] == "no" and row[side] == "yes")
        if right:
            found.append(look)
    return found


def own_looks(program):
    many = len(own_signs(program))
    return list(dict.fromkeys(look[:many] for look in looks(program)))


def reaches(program, look, at):
    row = dict(zip(signs(program), look))
    sides = [side for _, side, _ in joins_of(program)]
    asked = {name: (told == "yes" if name in sides else told) for name, told in row.items()}
    for step in program.steps[:at]:
        if step[0] == "keep" and not holds(step[1], asked):
            return False
        if step[0] == "join" and row[step[1]] == "no":
            return False
        if step[0] == "fan" and "." in step[2] and row[step[2].split(".")[0]] == "no":
            return False
    return True


def last_looks(program):
    return [look for look in looks(program) if reaches(program, look, program.cut_at)]


def once_of(program):
    return next((step[1] for step in program.steps[:program.cut_at] if step[0] == "once"), ())


def settles(program, columns):
    found = set(columns)
    while True:
        more = set(found)
        if "own" in found:
            more |= {name for name, kind in program.main if kind != "worth"}
        for _, side, column in joins_of(program):
            if column in found:
                more |= {name for name, _ in sides_of(program)[side]}
        for key in (program.unique, once_of(program)):
            if key and found.issuperset(key):
                more.add("own")
        if more == found:
            return sorted(found)
        found = more


def forced(program, look, other, columns):
    """Of own looks, too: they lack the signs of the fan."""
    one, two = dict(zip(signs(program), look)), dict(zip(signs(program), other))
    sides = [side for _, side, _ in joins_of(program)]
    given = set(columns) | {name for name in one if name not in sides and one[name] == two[name]}
    for side in sides:
        if one[side] == two[side] == "no":
            given |= {name for name, _ in sides_of(program)[side]}
    found = settles(program, given)
    for name in one:
        if name not in sides and name in found and one[name] != two[name]:
            return None
    for _, side, column in joins_of(program):
        if one[side] != two[side] and set(found) & {column, *[name for name, _ in sides_of(program)[side]]}:
            return None
    return found


def doubles(program):
    return any(step[0] in ("twice", "fan") for step in program.steps[:program.cut_at])


def parts(program, columns):
    cut = program.steps[program.cut_at]
    if "own" in columns and not doubles(program):
        return False
    if cut[1] in ("mark", "groups"):
        return not set(cut[2]) <= set(columns)
    if cut[1] == "before":
        return "own" not in columns and cut[2] not in columns
    if "own" not in columns:
        return True
    if cut[1] == "rounds" and fan_of(program) is None:
        for k in range(200):
            lots = {(program.many * k + more) % cut[2] in cut[3] for more in range(program.many)}
            if len(lots) == 2:
                return True
        return False
    return True


def ticks_of(program):
    return [name for name, kind in program.main if kind == "tick"]


def plain_columns(program):
    found = [name for name, kind in program.main if kind != "worth"]
    for _, side, _ in joins_of(program):
        found += [name for name, _ in sides_of(program)[side]]
    return found


def starts(program):
    many = len(own_signs(program))
    lasts = {look[:many] for look in last_looks(program)}
    agreed = tuple(sorted(["own", *plain_columns(program)]))
    order = ("=",) * (len(ticks_of(program)) + 1)
    return [(program.cut_at, look, look, agreed, order) for look in own_looks(program) if look in lasts]


def sign_at(program, at, order):
    ticks = ticks_of(program)
    for step in reversed(program.steps[:at]):
        if step[0] == "sort" and order[ticks.index(step[1])] != "=":
            return order[ticks.index(step[1])]
    return order[-1]


def third_signs(one, two, own):
    if one == "=" or two == "=" or one == two:
        return two if one == "=" else one
    return "<>" if own else "<=>"


def links(program, worth, state):
    at, look, other, agreed, order = state
    ticks = ticks_of(program)
    found = set()
    for index in range(min(at, program.cut_at)):
        step = program.steps[index]
        if step[0] not in ("near", "all") or step[1] != worth or not reaches(program, other, index):
            continue
        for third in own_looks(program):
            if not reaches(program, third, index):
                continue
            for equal in itertools.product((False, True), repeat=len(ticks)):
                both = forced(program, other, third, [*step[-1], *[tick for tick, yes in zip(ticks, equal) if yes]])
                if both is None or "own" in both:
                    continue
                choices = ["=" if tick in both else "<>" for tick in ticks] + ["<>"]
                for link in itertools.product(*choices):
                    if step[0] == "near" and sign_at(program, index, link) != {"last": ">", "next": "<"}[step[2]]:
                        continue
                    signs_of = [third_signs(one, two, k == len(ticks)) for k, (one, two) in enumerate(zip(order, link))]
                    for new in itertools.product(*signs_of):
                        same = [tick for tick, sign in zip(ticks, new) if sign == "="]
                        columns = forced(program, look, third, [*(set(agreed) & set(both)), *same])
                        if columns is None or "own" in columns:
                            continue
                        if [tick for tick in ticks if tick in columns] == same:
                            found.add((index, look, third, tuple(columns), new))
    return sorted(found, key=lambda new: (new[0], filled(new[1]), filled(new[2]), new[3], new[4]))


def filled(look):
    return tuple("" if word is None else word for word in look)


def crosses(program, state, lot):
    at, look, other, agreed, order = state
    if state in starts(program):
        return False
    many = len(own_signs(program))
    lasts = last_looks(program)
    fan = signs(program)[many:]
    cut = program.steps[program.cut_at]
    due = "<" if lot == "learn" else ">"
    if cut[1] == "before" and order[ticks_of(program).index(cut[2])] != due:
        return False
    if cut[1] == "share" and sign_at(program, program.cut_at, order) != due:
        return False
    for one in lasts:
        for two in lasts:
            if one[:many] == look and two[:many] == other:
                same = [name for name, a, b in zip(fan, one[many:], two[many:]) if a == b]
                if parts(program, [*agreed, *same]):
                    return True
    return False


def doubled(program):
    many = len(own_signs(program))
    lasts = last_looks(program)
    return doubles(program) and any(parts(program, forced(program, one, two, ["own"]))
                                    for one in lasts for two in lasts if one[:many] == two[:many])


def splits(program, thing):
    return any(parts(program, columns) for columns in meetings(program, thing))


def reached(program, worth):
    """The states that can be reached, with the number of the states of a shortest way to each."""
    level = starts(program)
    found = {state: 1 for state in level}
    while level:
        fresh = []
        for state in level:
            for new in links(program, worth, state):
                if new not in found:
                    found[new] = found[state] + 1
                    fresh.append(new)
        level = fresh
    return found


def shortest(program, worth, lot):
    """The number of states of the shortest way by which a worth leaks into a lot, or None."""
    if doubled(program):
        return 1
    lengths = [many for state, many in reached(program, worth).items() if crosses(program, state, lot)]
    return min(lengths, default=None)


def meetings(program, thing):
    """The columns in which two rows that are alike in a thing agree, for each two last looks that can be so."""
    for one in last_looks(program):
        for two in last_looks(program):
            rows = [dict(zip(signs(program), look)) for look in (one, two)]
            if not any(row.get(column.split(".")[0]) == "no" for row in rows for column in thing if "." in column):
                columns = forced(program, one, two, thing)
                if columns is not None:
                    yield columns


def settled(program, *things):
    found = set(program.columns())
    for thing in things:
        for columns in meetings(program, thing):
            found &= set(columns)
    return sorted(found)


def moved(program, steps):
    staying = [step for at, step in enumerate(program.steps) if at not in steps]
    going = [program.steps[at] for at in sorted(steps)]
    return Program(program.main, staying + going, sides=program.sides, unique=program.unique)


def least_moves(program, worth, lots):
    """All sets of steps of a worth that are enough for these lots, less those with a smaller part that is enough."""
    steps = [at for at, step in enumerate(program.steps[:program.cut_at]) if step[0] in ("near", "all") and step[1] == worth]
    found = []
    for many in range(len(steps) + 1):
        for chosen in itertools.combinations(steps, many):
            if not any(set(least) <= set(chosen) for least in found):
                if all(shortest(moved(program, chosen), worth, lot) is None for lot in lots):
                    found.append(chosen)
    return found


def movers(run_of, tables, longer, place):
    """The rows of the main table that get a lot at the cut by a newcomer at a place, by the runs of both tables."""
    before, behind = run_of(tables).at_cut(), run_of(longer).at_cut()
    found = []
    for own in range(len(tables)):
        elder = {lot for source, lot in before if source == own}
        newer = {lot for source, lot in behind if source == own + (own >= place)}
        if newer - elder:
            found.append(own)
    return found


def groups(rows, alike):
    """The parting of some rows by what two of them have to do with each other."""
    found = []
    for row in rows:
        if not any(row in group for group in found):
            group = [row]
            for member in group:
                group += [other for other in rows if other not in group and alike(member, other)]
            found.append(sorted(group))
    return found


def chain(rows, alike, one, other):
    """The least one of the shortest lists of rows from one to the other, found by trying all lists."""
    level = [[one]] if one in rows and other in rows else []
    while level:
        hits = [found for found in level if found[-1] == other]
        if hits:
            return min(hits)
        level = [found + [row] for found in level for row in rows if row not in found and alike(found[-1], row)]
    return None


SMALL = [
    "main person:name photo:name\ntwice 2\ncut rounds 4 3\n",
    "main person:name photo:name pulse:worth\ntwice 2\ncut rounds 4 2,3\n",
    "main person:name pulse:worth\ntwice 3\ncut rounds 6 0,1,2\n",
    "main person:name pulse:worth\ntwice 2\ntwice 3\ncut rounds 4 0\n",
    "main day:tick person:name pulse:worth\nsort day\nnear last pulse person\ncut before day 7\n",
    "main day:tick person:name pulse:worth\nsort day\nnear next pulse\ncut share 1 3\n",
    "main day:tick person:name pulse:worth\nnear next pulse\nsort day\ncut share 1 3\n",
    "main day:tick person:name pulse:worth\nkey person\nall pulse day\ncut mark 3 1 day\n",
    "main day:tick person:name pulse:worth\nkey person day\nall pulse day\nnear last pulse person\ncut groups 3 1 person\n",
    "main person:name kind:cat/dog pulse:worth\nkey person\nnear last pulse kind\nkeep is kind cat\ncut mark 2 1 kind person\n",
    "main person:name kind:cat/dog pulse:worth\nnear last pulse person\nkeep is kind cat\ncut mark 2 1 person\n",
    "main person:name kind:cat/dog pulse:worth\nonce person kind\nnear last pulse person\nkeep is kind cat\ncut throw\n",
    "main person:name kind:cat/dog pulse:worth\nall pulse kind\ncut groups 5 0,1 person\nonce person\n",
    "main person:name pulse:worth\nside people one home:name far:near/away\nleft people person\nall pulse people.home\n"
    "cut mark 4 3 people.home\n",
    "main person:name pulse:worth\nside people one home:name far:near/away\njoin people person\nall pulse people.far\n"
    "cut mark 4 3 person\nonce person\n",
    "main person:name pulse:worth\nside people one home:name\nside homes one owner:name\nleft people person\n"
    "left homes people.home\nnear last pulse homes.owner\nkeep or has homes not has people\ncut throw\n",
    "main person:name kind:cat/dog pulse:worth\nside visits many place:name long:yes/no\nfan visits person\ncut throw\n",
    "main person:name kind:cat/dog pulse:worth\nside visits many place:name long:yes/no\nfan visits person\n"
    "cut mark 3 0 visits.long kind\n",
    "main person:name kind:cat/dog pulse:worth\nside visits many place:name sole:yes\nall pulse kind\nfan visits person\n"
    "cut mark 3 0 visits.sole kind person\n",
    "main person:name day:tick pulse:worth\nside visits many place:name\nnear last pulse person\nfan visits person\n"
    "cut before day 0\nonce person visits.place\n",
    "main person:name pulse:worth\nside people one home:name\nside visits many place:name\nleft people person\n"
    "fan visits people.home\ncut rounds 3 1\n",
    "main person:name day:tick hour:tick pulse:worth\nsort day\nsort hour\nnear last pulse person\nsort day\ncut share 1 2\n",
    "main person:name day:tick hour:tick pulse:worth\nkey day\nsort hour\nnear last pulse person\nnear next pulse hour\n"
    "cut before hour 3\n",
    "main a:name b:name pulse:worth\nkey a b\nnear last pulse a\nnear last pulse b\ncut mark 2 0 a\n",
    "main a:name kind:cat/dog pulse:worth heat:worth\nkeep is kind cat\nkeep is kind dog\nall pulse a\ncut throw\n",
    "main a:name kx:u/v ky:m/n pulse:worth\nall pulse ky\nall pulse kx\nkeep or and is kx u is ky m and is kx v is ky n\n"
    "cut mark 2 0 kx ky\n",
    "main a:name kx:u/v/w ky:m/n pulse:worth\n"
    "keep or or and is kx u is ky m and is kx u is ky n or and is kx v is ky n and is kx w is ky m\n"
    "all pulse ky\nall pulse kx\nkeep or and is kx u is ky m and is kx v is ky n\ncut mark 2 0 kx\n",
    "main a:name kx:u/v/w ky:m/n/o pulse:worth\n"
    "keep or or or and is kx u is ky m and is kx u is ky n and is kx v is ky n and is kx v is ky o\n"
    "all pulse kx\nall pulse ky\nall pulse kx\nkeep or and is kx u is ky m and is kx v is ky o\ncut groups 3 1 a kx\n",
]


def programs():
    return [Program.read(text) for text in SMALL]
