"""The rules of a step that hang on no run: what a value is, and what comes of it (points 11, 12 and 14)."""

from idlegraph.putting import put

MARKS = ("at", "shut", "ring")
VALUES = ("number", "fun", "made")


def is_mark(term):
    return term[0] in MARKS


def is_value(term):
    return term[0] in VALUES


def reckoned(op, one, other):
    if op == "<":
        return truth(one < other)
    if op == "=":
        return truth(one == other)
    if op == "+":
        outcome = one + other
    elif op == "-":
        outcome = one - other
    else:
        outcome = one * other
    return ("number", outcome % 10 ** 18)


def truth(holds):
    return ("made", "Yes" if holds else "No", ())


def picked(value, alternatives):
    found = alternative_of(value, alternatives)
    if found is None:
        return None
    return put(found[2], dict(zip(found[1], value[2])))


def alternative_of(value, alternatives):
    if value[0] != "made":
        return None
    for alternative in alternatives:
        if alternative[0] == value[1]:
            return alternative
    return None


# Whether the frame on top takes the value, or wants another one. (A frame of first takes each.)
def fits(value, frame):
    if frame[0] == "give":
        return value[0] == "fun"
    if frame[0] == "pick":
        return alternative_of(value, frame[1]) is not None
    if frame[0] == "left" or frame[0] == "right":
        return value[0] == "number"
    return True
