"""Closed terms by chance, for the tests that ask over many of them.

some_term minds no kinds, and so gives many terms without one; term_of gives a term of the kind that is asked for;
busy_term one that has a kind, and that comes to the same things over and over.
"""

from idlegraph.texts import read

NAMES = ("a", "b", "c", "d", "e", "f")

NUM = ("num",)
TRUTH = ("truth",)


def some_term(chance, levels, bound):
    if levels == 0:
        sorts = ("name", "name", "name", "number", "stop", "none") if bound else ("number", "none", "stop")
    else:
        sorts = ("name", "does", "fun", "fun", "call", "call", "let", "let", "shape", "choose", "choose", "first")
    sort = chance.choice(sorts)
    if sort == "name":
        return ("name", chance.choice(bound)) if bound else ("number", 0)
    if sort == "number":
        return ("number", chance.randrange(10))
    if sort == "none":
        return ("shape", chance.choice(("Nil", "No", "Yes")), ())
    if sort == "stop":
        return ("stop", "w")
    if sort == "fun":
        name = chance.choice(NAMES)
        return ("fun", name, some_term(chance, levels - 1, bound + [name]))
    if sort == "let":
        names = chance.sample(NAMES, chance.randrange(1, 4))
        inner = bound + names
        pairs = tuple((name, some_term(chance, chance.randrange(levels), inner)) for name in names)
        return ("let", pairs, some_term(chance, levels - 1, inner))
    one = some_term(chance, levels - 1, bound)
    if sort == "choose":
        return ("choose", one, some_alternatives(chance, levels, bound))
    other = some_term(chance, chance.randrange(levels), bound)
    if sort == "does":
        return ("does", chance.choice(("+", "-", "*", "<", "=")), one, other)
    if sort == "shape":
        return ("shape", chance.choice(("Cons", "Pair")), (one, other))
    return (sort, one, other)


def some_alternatives(chance, levels, bound):
    family = chance.choice((("Nil", "Cons"), ("No", "Yes"), ("Pair",)))
    alternatives = []
    for shape in family:
        names = chance.sample(NAMES, 2) if shape in ("Cons", "Pair") else []
        alternatives.append((shape, tuple(names), some_term(chance, chance.randrange(levels), bound + names)))
    return tuple(alternatives)


def some_kind(chance, levels):
    word = chance.choice(("num", "num", "truth", "list", "list", "pair", "to") if levels > 0 else ("num", "truth"))
    if word == "list":
        return ("list", some_kind(chance, levels - 1))
    if word in ("pair", "to"):
        return (word, some_kind(chance, levels - 1), some_kind(chance, levels - 1))
    return (word,)


# The least term of a kind, where no more levels are left.
def plain_of(chance, kind):
    if kind[0] == "num":
        return ("number", chance.randrange(4))
    if kind[0] == "truth":
        return ("shape", chance.choice(("No", "Yes")), ())
    if kind[0] == "list":
        return ("shape", "Nil", ())
    if kind[0] == "pair":
        return ("shape", "Pair", (plain_of(chance, kind[1]), plain_of(chance, kind[2])))
    return ("fun", chance.choice(NAMES), plain_of(chance, kind[2]))


# bound is a dict from the names that stand here to their kinds.
def term_of(chance, kind, levels, bound):
    fitting = sorted(name for name in bound if bound[name] == kind)
    if fitting and chance.randrange(3) == 0 or fitting and levels <= 0:
        return ("name", chance.choice(fitting))
    if levels <= 0:
        return plain_of(chance, kind)
    sort = chance.choice(("own", "own", "own", "call", "call", "let", "choose", "choose", "first", "stop"))
    if sort == "own":
        return own_term(chance, kind, levels - 1, bound)
    if sort == "call":
        given = some_kind(chance, 1)
        return ("call", term_of(chance, ("to", given, kind), levels - 1, bound), term_of(chance, given, levels - 1, bound))
    if sort == "let":
        names = chance.sample(NAMES, chance.randrange(1, 3))
        inner = {**bound, **{name: some_kind(chance, 2) for name in names}}
        pairs = tuple((name, term_of(chance, inner[name], levels - 1, inner)) for name in names)
        return ("let", pairs, term_of(chance, kind, levels - 1, inner))
    if sort == "choose":
        return choose_of(chance, kind, levels - 1, bound)
    if sort == "first":
        ahead = term_of(chance, some_kind(chance, 1), levels - 1, bound)
        return ("first", ahead, term_of(chance, kind, levels - 1, bound))
    return ("stop", "w") if chance.randrange(4) == 0 else plain_of(chance, kind)


def own_term(chance, kind, levels, bound):
    if kind[0] == "to":
        name = chance.choice(NAMES)
        return ("fun", name, term_of(chance, kind[2], levels, {**bound, name: kind[1]}))
    if kind[0] == "pair":
        return ("shape", "Pair", (term_of(chance, kind[1], levels, bound), term_of(chance, kind[2], levels, bound)))
    if kind[0] == "list":
        return ("shape", "Cons", (term_of(chance, kind[1], levels, bound), term_of(chance, kind, levels, bound)))
    op = chance.choice("+-*" if kind[0] == "num" else "<=")
    return ("does", op, term_of(chance, NUM, levels, bound), term_of(chance, NUM, levels, bound))


def choose_of(chance, kind, levels, bound):
    one, other = some_kind(chance, 1), some_kind(chance, 1)
    family = chance.choice(("list", "truth", "pair"))
    names = tuple(chance.sample(NAMES, 2))
    if family == "truth":
        alternatives = tuple((shape, (), term_of(chance, kind, levels, bound)) for shape in ("No", "Yes"))
        return ("choose", term_of(chance, TRUTH, levels, bound), alternatives)
    whole = ("list", one) if family == "list" else ("pair", one, other)
    inner = {**bound, names[0]: one, names[1]: whole if family == "list" else other}
    body = term_of(chance, kind, levels, inner)
    if family == "pair":
        return ("choose", term_of(chance, whole, levels, bound), (("Pair", names, body),))
    empty = term_of(chance, kind, levels, bound)
    return ("choose", term_of(chance, whole, levels, bound), (("Nil", (), empty), ("Cons", names, body)))


NUMS = ("list", NUM)
STEP = ("to", NUM, NUM)

# Funs that go round, lists without an end, and things that want themselves, for terms that come to them over and over.
SHARED = (
    ("upto", ("to", NUM, ("to", NUM, NUMS)), "(fun a b (choose (< a b) (No Nil) (Yes (Cons a (upto (+ a 1) b)))))"),
    ("sum", ("to", NUMS, NUM), "(fun l (choose l (Nil 0) (Cons a b (+ a (sum b)))))"),
    ("map", ("to", STEP, ("to", NUMS, NUMS)), "(fun f l (choose l (Nil Nil) (Cons a b (Cons (f a) (map f b)))))"),
    ("join", ("to", NUMS, ("to", NUMS, NUMS)), "(fun l m (choose l (Nil m) (Cons a b (Cons a (join b m)))))"),
    ("twice", ("to", STEP, STEP), "(fun f a (f (f a)))"),
    ("head", ("to", NUMS, NUM), "(fun l (choose l (Nil (stop none)) (Cons a b a)))"),
    ("tail", ("to", NUMS, NUMS), "(fun l (choose l (Nil (stop none)) (Cons a b b)))"),
    ("ones", NUMS, "(Cons 1 ones)"),
    ("nats", NUMS, "(Cons 0 (map (fun a (+ a 1)) nats))"),
    ("few", NUMS, "(upto 2 6)"),
    ("seven", NUM, "(+ 3 (sum (upto 1 3)))"),
    ("both", ("pair", NUM, NUMS), "(Pair (sum few) (map (fun a (* a seven)) (join few few)))"),
    ("round", NUM, "(+ 1 (head (tail knot)))"),
    ("knot", NUMS, "(Cons seven (Cons round knot))"))


# Each let here sees those of the lets about it, and its own.
def busy_term(chance):
    bound = {name: kind for name, kind, text in SHARED}
    kind = chance.choice((NUM, NUM, NUMS, NUMS, ("pair", NUM, NUMS), TRUTH, ("list", NUMS)))
    term = term_of(chance, kind, chance.randrange(2, 6), bound)
    for begin in (10, 5, 0):
        term = ("let", tuple((name, read(text)) for name, kind, text in SHARED[begin:begin + 5]), term)
    return term
