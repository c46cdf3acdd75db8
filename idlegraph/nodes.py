"""The states of things that are kept, and the things that they lead to (points 18 and 23)."""

from idlegraph.terms import parts


class Node:

    def state(self):
        return ""

    def links(self):
        return []


class Waiting(Node):

    def __init__(self, text):
        self.text = text

    def state(self):
        return "waiting"

    def links(self):
        return marks_in(self.text)


class Underway(Node):

    def state(self):
        return "under way"


class Ready(Node):

    def __init__(self, value):
        self.value = value

    def state(self):
        return "ready"

    def links(self):
        return marks_in(self.value)


def marks_in(term):
    found = {}
    pile = [term]
    while pile != []:
        one = pile.pop()
        if one[0] == "at":
            found[one[1]] = True
        elif one[0] == "made":
            pile.extend(one[2])
        else:
            pile.extend(parts(one))
    return sorted(found)
