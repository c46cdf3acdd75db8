"""Terms: what a name is, and the parts, the depth and the free names of a term (points 3 to 5)."""

LETTERS = "abcdefghijklmnopqrstuvwxyz"
FIGURES = "0123456789"
WORDS = ("fun", "let", "choose", "first", "stop", "rows", "in", "when", "be")
OPS = ("+", "-", "*", "<", "=")
SHAPES = {"Nil": 0, "Cons": 2, "No": 0, "Yes": 0, "Pair": 2}
FAMILIES = (("Nil", "Cons"), ("No", "Yes"), ("Pair",))


def is_name(text):
    if len(text) < 1 or len(text) > 8:
        return False
    if text[0] not in LETTERS or text in WORDS:
        return False
    return all([sign in LETTERS or sign in FIGURES for sign in text])


# Parts and free names both go by this one list, so that they can't come to differ on what a part is:
# for each part, in order, the names that the term binds in it, and the part.
def scopes(term):
    sort = term[0]
    if sort == "does":
        return [((), term[2]), ((), term[3])]
    if sort == "call" or sort == "first":
        return [((), term[1]), ((), term[2])]
    if sort == "fun":
        return [((term[1],), term[2])]
    if sort == "let":
        return let_scopes(term[1], term[2])
    if sort == "shape":
        return [((), part) for part in term[2]]
    if sort == "choose":
        return [((), term[1])] + [(names, body) for shape, names, body in term[2]]
    if sort == "rows":
        return rows_scopes(term[1], term[2])
    return []


def let_scopes(pairs, body):
    names = tuple([name for name, part in pairs])
    return [(names, part) for name, part in pairs] + [(names, body)]


def rows_scopes(body, steps):
    bound = ()
    behind = []
    for step in steps:
        behind.append((bound, step[-1]))
        # The name of a step stands between its word and its term; a "when" has none there.
        bound = bound + step[1:-1]
    return [(bound, body)] + behind


def parts(term):
    return [part for names, part in scopes(term)]


def depth(term):
    deepest = 0
    for part in parts(term):
        deepest = max(deepest, depth(part))
    if term[0] == "rows":
        return 1 + deepest + len(term[2])
    return 1 + deepest


def free(term):
    found = {}
    gather_free(term, (), found)
    return sorted(found)


def gather_free(term, bound, found):
    if term[0] == "name" and term[1] not in bound:
        found[term[1]] = True
    for names, part in scopes(term):
        gather_free(part, bound + names, found)
