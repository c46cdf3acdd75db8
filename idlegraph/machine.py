"""The machine: each thing is kept, reckoned once at most, and written over by its value (points 18 to 23)."""

from idlegraph.nodes import Ready, Underway, Waiting, marks_in
from idlegraph.runner import Runner


def run(term, depth=8, most=400):
    return Machine(term, depth).go(most)


# A tidy-up asks for links and roots over and over, of things and frames that mostly are those of the time before. So
# they are found once for each: leads holds the links of things but for those in changed, and pinned, frame by frame
# from the lowest, the marks of as many frames as heights has numbers (each the length of pinned below that frame).
class Machine(Runner):

    def __init__(self, term, depth=8):
        Runner.__init__(self, term, depth)
        self.leads = {}
        self.changed = []
        self.pinned = []
        self.heights = []

    def keep(self, number, text):
        self.write_over(number, Waiting(text))

    def enter(self, number):
        thing = self.things[number]
        if isinstance(thing, Waiting):
            self.note("enter", number)
            self.write_over(number, Underway())
            self.go_into(thing.text, ("back", number))
        elif isinstance(thing, Ready):
            self.note("again", number)
            self.hand = thing.value
        else:
            # The mark stays in hand, since it is a root of the machine that ended so.
            self.ending = ("ring", self.ring_from(number))

    def come_back(self, number):
        self.note("back", number)
        self.write_over(number, Ready(self.hand))

    def write_over(self, number, node):
        self.things[number] = node
        self.changed.append(number)

    # Each thing under way has its way back on the pile, in the order of entering.
    def ring_from(self, number):
        entered = [frame[1] for frame in self.pile if frame[0] == "back"]
        return tuple([self.labels[one] for one in entered[entered.index(number):]])

    def take_frame(self):
        frame = self.pile.pop()
        if len(self.heights) > len(self.pile):
            height = self.heights.pop()
            while len(self.pinned) > height:
                self.pinned.pop()
        return frame

    def states(self):
        told = {}
        for number, node in self.things.items():
            told[number] = node.state()
        return told

    def links(self):
        told = {}
        for number, numbers in self.all_leads().items():
            told[number] = list(numbers)
        return told

    # The machine's own dict, to be read alone.
    def all_leads(self):
        for number in self.changed:
            if number in self.things:
                self.leads[number] = self.things[number].links()
        self.changed = []
        return self.leads

    def roots(self):
        found = list(self.all_pinned())
        if self.hand is not None:
            found.extend(marks_in(self.hand))
        for piece in self.still:
            if not isinstance(piece, str) and piece[0] > 0:
                found.extend(marks_in(piece[1]))
        return sorted(set(found))

    # The machine's own list, to be read alone.
    def all_pinned(self):
        fresh = self.pile[len(self.heights):]
        for frame in fresh:
            self.heights.append(len(self.pinned))
            self.pinned.extend(marks_of(frame))
        return self.pinned

    def drop(self, numbers):
        for number in numbers:
            self.things.pop(number, None)
            self.leads.pop(number, None)


def marks_of(frame):
    if frame[0] == "back":
        return [frame[1]]
    if frame[0] == "right":
        return []
    if frame[0] == "pick":
        found = []
        for shape, names, body in frame[1]:
            found.extend(marks_in(body))
        return found
    return marks_in(frame[-1])
