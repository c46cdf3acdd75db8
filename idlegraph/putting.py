"""Marks put in place of names (point 11)."""

from idlegraph.remake import with_parts
from idlegraph.terms import scopes


def put(term, marks):
    given = changed(term, marks)
    return term if given is None else given


# None where nothing is changed: a long run puts marks over and over, and what stays as it was is not made anew.
def changed(term, marks):
    if term[0] == "name":
        return marks.get(term[1])
    stays = True
    given = []
    for names, part in scopes(term):
        left = marks if names == () else without(marks, names)
        one = None if left == {} else changed(part, left)
        if one is not None:
            stays = False
        given.append(part if one is None else one)
    return None if stays else with_parts(term, given)


# A mark is put for a free name alone, so it is left out where the name is bound.
def without(marks, names):
    if not any([name in marks for name in names]):
        return marks
    left = dict(marks)
    for name in names:
        left.pop(name, None)
    return left
