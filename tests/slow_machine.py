"""A slower machine, for the tests that ask over many terms, and the log by names read with the goings-again left out.

Here a value is found by calls within calls: each of them waits where a step is due. What frames, the hand and what is
still to be told hold is laid beside them, and marks are looked for in all of it, at each step anew.
"""


class Ended(Exception):
    pass


def marks_within(held):
    if isinstance(held, list) or isinstance(held, tuple):
        if len(held) == 2 and held[0] == "at" and isinstance(held[1], int):
            return {held[1]}
        return {number for part in held for number in marks_within(part)}
    return set()


# Names that are bound anew are left as they are.
def put_in(term, marks):
    if not marks or term[0] in ("number", "at", "stop"):
        return term
    if term[0] == "name":
        return marks.get(term[1], term)
    if term[0] == "fun":
        return ("fun", term[1], put_in(term[2], but(marks, [term[1]])))
    if term[0] == "let":
        inner = but(marks, [name for name, text in term[1]])
        return ("let", tuple((name, put_in(text, inner)) for name, text in term[1]), put_in(term[2], inner))
    if term[0] == "choose":
        return ("choose", put_in(term[1], marks),
                tuple((shape, names, put_in(body, but(marks, names))) for shape, names, body in term[2]))
    if term[0] == "shape":
        return ("shape", term[1], tuple(put_in(part, marks) for part in term[2]))
    return tuple(put_in(part, marks) if isinstance(part, tuple) else part for part in term)


def but(marks, names):
    return {name: mark for name, mark in marks.items() if name not in names}


class SlowMachine:

    def __init__(self, term, depth):
        self.hand = None
        self.pile = []
        self.still = []
        self.states = {}
        self.holds = {}
        self.labels = []
        self.log = []
        self.steps, self.cells, self.firsts = 0, 0, 0
        self.end = None
        self.way = self.whole(term, depth)
        self.rest()

    # To the place where the next step is due, or to the end.
    def rest(self):
        try:
            next(self.way)
        except Ended as ended:
            self.end = ended.args
        except StopIteration as ended:
            self.end = ("told", ended.value)

    def go(self, most):
        while self.end is None and self.steps < most:
            self.steps += 1
            self.rest()
        return (*(self.end or ("spent", "")), (self.steps, self.cells, self.firsts), list(self.log))

    def links(self):
        return {number: sorted(marks_within(held)) for number, held in self.holds.items()}

    def roots(self):
        return sorted(marks_within([self.hand, self.pile, self.still]))

    def reached(self):
        links, found, fresh = self.links(), set(), set(self.roots())
        while fresh:
            found |= fresh
            fresh = {number for one in fresh for number in links[one]} - found
        return found

    def whole(self, term, depth):
        return (yield from self.told(term, depth))

    def told(self, term, depth):
        if depth == 0:
            return "?"
        value = yield from self.value(term)
        self.hand = None
        if value[0] == "number":
            return str(value[1])
        if value[0] == "fun":
            return "fun"
        if value[2] == ():
            return value[1]
        one, other = value[2]
        self.still.append(other if depth > 1 else None)
        first = yield from self.told(one, depth - 1)
        self.still.pop()
        second = yield from self.told(other, depth - 1)
        return f"({value[1]} {first} {second})"

    def note(self, event, number):
        self.log.append((event, number, self.labels[number], self.steps))

    def bear(self, label):
        self.labels.append(label)
        self.note("born", len(self.labels) - 1)
        return ("at", len(self.labels) - 1)

    def write(self, number, state, held):
        self.states[number] = state
        self.holds[number] = held

    def thing(self, label, text):
        if text[0] == "at":
            return text
        mark = self.bear(label)
        self.write(mark[1], "waiting", text)
        return mark

    # What a frame holds is there while the value that it waits for is found, and until the step that takes it.
    def waited(self, term, frame, fits):
        self.pile.append(frame)
        value = yield from self.value(term)
        if not fits(value):
            raise Ended("stuck", "")
        yield
        self.pile.pop()
        return value

    def value(self, term):
        while True:
            self.hand = term
            if term[0] in ("number", "fun", "made"):
                return term
            if term[0] == "stop":
                raise Ended("stop", term[1])
            yield
            if term[0] == "at":
                return (yield from self.entered(term[1]))
            if term[0] == "shape":
                return self.made(term[1], term[2])
            if term[0] == "does":
                return (yield from self.done(term))
            if term[0] == "let":
                term = self.bound(term)
            else:
                term = yield from self.gone_into(term)

    def gone_into(self, term):
        if term[0] == "call":
            fun = yield from self.waited(term[1], term[2], lambda value: value[0] == "fun")
            return put_in(fun[2], {fun[1]: self.thing(fun[1], term[2])})
        if term[0] == "first":
            self.firsts += 1
            yield from self.waited(term[1], term[2], lambda value: True)
            return term[2]
        bodies = {shape: (names, body) for shape, names, body in term[2]}
        made = yield from self.waited(term[1], list(bodies.values()),
                                      lambda value: value[0] == "made" and value[1] in bodies)
        return put_in(bodies[made[1]][1], dict(zip(bodies[made[1]][0], made[2])))

    def bound(self, term):
        marks = {name: self.bear(name) for name, text in term[1]}
        for name, text in term[1]:
            self.write(marks[name][1], "waiting", put_in(text, marks))
        return put_in(term[2], marks)

    def made(self, shape, parts):
        self.cells += shape == "Cons"
        marks = tuple(self.thing(f"{shape}.{place}", part) for place, part in enumerate(parts, start=1))
        self.hand = ("made", shape, marks)
        return self.hand

    def done(self, term):
        one = yield from self.waited(term[2], term[3], lambda value: value[0] == "number")
        other = yield from self.waited(term[3], one, lambda value: value[0] == "number")
        one, other = one[1], other[1]
        if term[1] in "<=":
            self.hand = ("made", "Yes" if (one < other if term[1] == "<" else one == other) else "No", ())
        else:
            self.hand = ("number", {"+": one + other, "-": one - other, "*": one * other}[term[1]] % 10 ** 18)
        return self.hand

    def entered(self, number):
        if self.states[number] == "under way":
            entered = [frame[1][1] for frame in self.pile if frame[0] == "back"]
            raise Ended("ring", tuple(self.labels[one] for one in entered[entered.index(number):]))
        text = self.holds[number]
        if self.states[number] == "ready":
            self.note("again", number)
            self.hand = text
            return text
        self.note("enter", number)
        self.write(number, "under way", None)
        self.pile.append(("back", ("at", number)))
        value = yield from self.value(text)
        self.pile.pop()
        self.note("back", number)
        self.write(number, "ready", value)
        return value
