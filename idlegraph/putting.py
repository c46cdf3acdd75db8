"""Marks put in place of names (point 11)."""

from idlegraph.terms import scopes, with_parts


def put(term, marks):
    if term[0] == "name":
        return marks.get(term[1], term)
    changed = []
    for names, part in scopes(term):
        left = without(marks, names)
        changed.append(put(part, left) if left != {} else part)
    return with_parts(term, changed)


# A mark is put for a free name alone, so it is left out where the name is bound.
def without(marks, names):
    if not any([name in marks for name in names]):
        return marks
    left = dict(marks)
    for name in names:
        left.pop(name, None)
    return left
