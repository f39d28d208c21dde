"""Programs, tables and settings drawn by chance from a given source, always the same ones for the same seed."""

import itertools

from bothlots.errors import LotsError
from bothlots.programs import Program
from bothlots.tables import Setting, Tables

POOL = ("aa", "bb", "cc")
THROW = ("cut", "throw")


def drawn_main(chance):
    kinds = ["name"] * chance.randint(1, 2) + ["tick"] * chance.randint(0, 2)
    kinds += [("x", "y", "z")[:chance.randint(1, 2)] for _ in range(chance.randint(0, 1))] + ["worth"]
    chance.shuffle(kinds)
    return list(zip("abcdef", kinds))


def drawn_sides(chance):
    found = []
    for name in ("s", "t", "u")[:chance.randint(0, 3)]:
        kinds = [chance.choice(("name", ("p",), ("p", "q"))) for _ in range(chance.randint(1, 2))]
        found.append((name, chance.choice(("one", "one", "many")), tuple(zip("kl", kinds))))
    return found


def drawn_step(chance, columns, worths, sides, kinds):
    def some(least):
        return tuple(chance.sample(columns, min(len(columns), chance.randint(least, 2))))

    def test(deep):
        word = chance.choice(("is", "is", "has", "not", "and", "or"))
        if word == "is" or deep > 2:
            column = chance.choice(columns)
            return ("is", column, chance.choice(kinds.get(column, ("x",))))
        if word == "has":
            return ("has", chance.choice(sides))
        return (word, *[test(deep + 1) for _ in range(1 if word == "not" else 2)])

    word = chance.choice(("keep", "join", "left", "sort", "once", "near", "near", "all", "twice", "fan"))
    if word == "keep":
        return word, test(1)
    if word in ("join", "left", "fan"):
        return word, chance.choice(sides), chance.choice(columns)
    if word == "sort":
        return word, chance.choice(columns)
    if word == "near":
        return word, chance.choice(worths), chance.choice(("last", "next")), some(0)
    return {"once": (word, some(1)), "all": (word, chance.choice(worths), some(0)), "twice": (word, chance.randint(2, 3))}[word]


def drawn_cut(chance, columns):
    modulus = chance.randint(2, 5)
    rests = tuple(sorted(chance.sample(range(modulus), chance.randint(1, modulus - 1))))
    chosen = tuple(chance.sample(columns, min(len(columns), chance.randint(1, 2))))
    form = chance.choice(("rounds", "throw", "mark", "before", "share", "groups"))
    return {"rounds": ("cut", form, modulus, rests), "throw": THROW, "mark": ("cut", form, chosen, modulus, rests),
            "before": ("cut", form, chosen[0], chance.randint(-3, 3)), "groups": ("cut", form, chosen, modulus, rests),
            "share": ("cut", form, chance.randint(1, modulus), modulus + chance.randint(1, 7))}[form]


def drawn_program(chance):
    """A program; what cannot stand somewhere is drawn again."""
    main, sides, steps, unique, found = drawn_main(chance), drawn_sides(chance), [THROW], (), None
    if chance.random() < 0.5:
        unique = tuple(chance.sample([name for name, kind in main if kind != "worth"], 1))
    kinds = {name: kind for name, kind in main if isinstance(kind, tuple)}
    for name, _, columns in sides:
        kinds.update({f"{name}.{column}": kind for column, kind in columns if isinstance(kind, tuple)})
    worths = [name for name, kind in main if kind == "worth"]
    for _ in range(30):
        try:
            found = Program(main, steps, sides=sides, unique=unique)
        except LotsError:
            unique, steps = (() if found is None else unique), ([THROW] if found is None else list(found.steps))
            continue
        at = found.cut_at if len(found) < 7 else len(found)
        if chance.random() < 0.3:
            steps = [*found.steps[:found.cut_at], drawn_cut(chance, found.columns()), *found.steps[found.cut_at + 1:]]
        elif chance.random() < 0.9:
            step = drawn_step(chance, found.columns(), worths, [side[0] for side in sides] or ["s"], kinds)
            steps = [*found.steps[:at], step, *found.steps[at:]]
    return found


def drawn_tables(program, chance):
    """Some tables and a setting."""
    def some(kind):
        return chance.choice(POOL) if kind == "name" else chance.randint(-2, 4) if kind == "tick" else chance.choice(kind)

    columns = [(name, kind) for name, kind in program.main if kind != "worth"]
    rows = {}
    for number in range(chance.randint(1, 8)):
        row = {name: some(kind) for name, kind in columns}
        rows.setdefault(tuple(row[name] for name in program.unique) or number, tuple(row.values()))
    sides = {}
    for name, how, held in program.sides:
        drawn = [(chance.choice(POOL), *[some(kind) for _, kind in held]) for _ in range(4)]
        sides[name] = list({row[0]: row for row in drawn}.values()) if how == "one" else drawn
    cut = program.step(program.cut_at)
    marks = {}
    if cut[1] == "mark" and len(cut[2]) < 3:
        values = [*"pquvwxyz", *POOL, None, *range(-2, 5), "cat", "dog", "yes", "no", "near", "far"]
        marks = {each: chance.randint(0, 9) for each in itertools.product(values, repeat=len(cut[2]))}
    return Tables(program, list(rows.values()), sides), Setting(marks, throws=[chance.randint(0, 1) for _ in range(99)])
