"""The log by names, read as point 24 tells: with the goings-again left out.

left_out(log) gives a tuple: the rows that are left, as the machine's; the ring, as a tuple of its labels and the steps
at which it is told, or None; the steps left out; whether the log breaks off within a going-again.
"""


# For each row that enters, the row of its own way back, where there is one.
def ways_back(log):
    found, within = {}, []
    for place, row in enumerate(log):
        if row[0] == "enter":
            within.append(place)
        if row[0] == "back":
            found[within.pop()] = place
    return found


def born_between(log, begin, end):
    return [row[1] for row in log[begin:end] if row[0] == "born"]


class Reading:

    def __init__(self, log):
        self.log = log
        self.back = ways_back(log)
        self.rows = []
        self.numbers = {}
        self.taken = {}
        self.first = {}
        self.within = []
        self.done = []
        self.cut = 0

    def meant(self, number):
        while number in self.taken:
            number = self.taken[number]
        return number

    def tell(self, event, number, label, steps):
        self.rows.append((event, self.numbers[number], label, steps - self.cut))

    def leave_out(self, number, begin, end):
        first = self.first[number]
        here = born_between(self.log, begin, end)
        there = born_between(self.log, first, self.back[first])
        assert len(here) == len(there), (here, there)
        self.taken.update(zip(here, there))
        self.cut += self.log[end][3] - self.log[begin][3]

    def read(self):
        place = 0
        while place < len(self.log):
            event, number, label, steps = self.log[place]
            number = self.meant(number)
            if event == "born":
                self.numbers[number] = len(self.numbers)
                self.tell(event, number, label, steps)
            elif event == "back":
                self.tell(event, number, label, steps)
                self.done.append(self.within.pop()[0])
            elif number in self.done:
                self.tell("again", number, label, steps)
                if place not in self.back:
                    return (self.rows, None, self.cut, True)
                self.leave_out(number, place, self.back[place])
                place = self.back[place]
            elif number in [one for one, name in self.within]:
                at = [one for one, name in self.within].index(number)
                return (self.rows, (tuple(name for one, name in self.within[at:]), steps - self.cut), self.cut, False)
            else:
                self.tell(event, number, label, steps)
                self.first[number] = place
                self.within.append((number, label))
            place += 1
        return (self.rows, None, self.cut, False)


def left_out(log):
    return Reading(log).read()
