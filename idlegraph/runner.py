"""The runner: the steps of a run, what goes without a step, and the outcome (points 12, 13 and 15 to 17).

It goes by names, and three methods alone say so: keep, enter and come_back. The machine has others in their place.
The frames on the pile are ("give", A), ("left", op, B), ("right", op, number), ("pick", alternatives), ("first", B)
and ("back", number).
"""

from idlegraph.putting import put
from idlegraph.rules import fits, is_mark, is_value, picked, reckoned


class Runner:

    def __init__(self, term, depth):
        self.hand = None
        self.wanted = 0
        self.pile = []
        # What is still to be told, the next of it last: texts, and terms as tuples (depth, term).
        self.still = [(depth, term)]
        self.told = []
        self.things = {}
        self.labels = []
        self.log = []
        self.steps = 0
        self.cells = 0
        self.firsts = 0
        self.ending = None

    def go(self, most):
        self.advance(most)
        return self.outcome()

    def advance(self, most):
        self.settle()
        while self.ending is None and self.steps < most:
            self.steps = self.steps + 1
            self.take_step()
            self.settle()

    # A run that has no ending yet is told spent, and may go on all the same.
    def outcome(self):
        ending = ("spent", "") if self.ending is None else self.ending
        return (ending[0], ending[1], (self.steps, self.cells, self.firsts), list(self.log))

    # All that goes without a step is done here: behind it the run is at its end, or a step is due.
    def settle(self):
        while self.ending is None:
            if self.hand is None:
                self.tell_next()
            elif self.hand[0] == "stop":
                self.ending = ("stop", self.hand[1])
            elif not is_value(self.hand):
                return
            elif self.pile == []:
                self.tell_value()
            elif self.pile[-1][0] == "back":
                self.come_back(self.take_frame()[1])
            elif fits(self.hand, self.pile[-1]):
                return
            else:
                self.ending = ("stuck", "")

    def tell_next(self):
        if self.still == []:
            self.ending = ("told", "".join(self.told))
            return
        piece = self.still.pop()
        if isinstance(piece, str):
            self.told.append(piece)
        elif piece[0] <= 0:
            self.told.append("?")
        else:
            self.wanted = piece[0]
            self.hand = piece[1]

    def tell_value(self):
        self.still.extend(list(reversed(pieces_of(self.hand, self.wanted - 1))))
        self.hand = None

    def take_step(self):
        if is_value(self.hand):
            self.use_value(self.hand, self.take_frame())
        else:
            self.take_apart(self.hand)

    def take_apart(self, term):
        sort = term[0]
        if sort == "call":
            self.go_into(term[1], ("give", term[2]))
        elif sort == "does":
            self.go_into(term[2], ("left", term[1], term[3]))
        elif sort == "choose":
            self.go_into(term[1], ("pick", term[2]))
        elif sort == "first":
            self.firsts = self.firsts + 1
            self.go_into(term[1], ("first", term[2]))
        elif sort == "let":
            self.bind(term[1], term[2])
        elif sort == "shape":
            self.make(term[1], term[2])
        else:
            self.enter(term[1])

    def use_value(self, value, frame):
        if frame[0] == "give":
            mark = self.mark_for(value[1], frame[1])
            self.hand = put(value[2], {value[1]: mark})
        elif frame[0] == "pick":
            self.hand = picked(value, frame[1])
        elif frame[0] == "left":
            self.go_into(frame[2], ("right", frame[1], value[1]))
        elif frame[0] == "right":
            self.hand = reckoned(frame[1], frame[2], value[1])
        else:
            self.hand = frame[1]

    def go_into(self, term, frame):
        self.pile.append(frame)
        self.hand = term

    def take_frame(self):
        return self.pile.pop()

    # The marks of all the names must be there before the first of the texts can be kept.
    def bind(self, pairs, body):
        marks = {}
        for name, text in pairs:
            marks[name] = self.bear(name)
        for name, text in pairs:
            self.keep(marks[name][1], put(text, marks))
        self.hand = put(body, marks)

    def make(self, shape, given):
        if shape == "Cons":
            self.cells = self.cells + 1
        marks = []
        for place, part in enumerate(given, start=1):
            marks.append(self.mark_for(f"{shape}.{place}", part))
        self.hand = ("made", shape, tuple(marks))

    # What is a mark already leads to its thing, and none is born for it.
    def mark_for(self, label, text):
        if is_mark(text):
            return text
        mark = self.bear(label)
        self.keep(mark[1], text)
        return mark

    def bear(self, label):
        number = len(self.labels)
        self.labels.append(label)
        self.note("born", number)
        return ("at", number)

    def note(self, event, number):
        self.log.append((event, number, self.labels[number], self.steps))

    def keep(self, number, text):
        self.things[number] = text

    def enter(self, number):
        self.note("enter", number)
        self.go_into(self.things[number], ("back", number))

    def come_back(self, number):
        self.note("back", number)


# What is told of a value, in order; its parts are wanted to the depth given.
def pieces_of(value, depth):
    if value[0] == "number":
        return [str(value[1])]
    if value[0] == "fun":
        return ["fun"]
    if value[2] == ():
        return [value[1]]
    pieces = ["(" + value[1]]
    for mark in value[2]:
        pieces.extend([" ", (depth, mark)])
    return pieces + [")"]
