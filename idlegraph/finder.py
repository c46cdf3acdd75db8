"""The finder of kinds: the most general paper of a term (points 8 and 9).

While a paper is being found, a slot, a whole number, stands for each kind; what is alike comes to share one slot.
"""

from idlegraph.errors import NoKind, Unbound
from idlegraph.terms import free, scopes


class Slots:

    # A form is None while nothing is known of a kind, else a kind's word and the slots of the kinds within.
    def __init__(self):
        self.forms = []
        self.leads = []

    def unknown(self):
        return self.known(None)

    def known(self, form):
        slot = len(self.forms)
        self.forms.append(form)
        self.leads.append(slot)
        return slot

    def shared(self, slot):
        while self.leads[slot] != slot:
            # The way is halved for those who ask later.
            self.leads[slot] = self.leads[self.leads[slot]]
            slot = self.leads[slot]
        return slot

    def form_of(self, slot):
        return self.forms[self.shared(slot)]

    def make_alike(self, one, other):
        pile = [(one, other)]
        while pile != []:
            pair = pile.pop()
            left = self.shared(pair[0])
            right = self.shared(pair[1])
            if left != right:
                pile.extend(self.join_two(left, right))

    # The two share a slot before the kinds within are asked, so that even a kind within itself comes to an end here.
    def join_two(self, left, right):
        known = self.forms[left]
        other = self.forms[right]
        if known is None:
            self.leads[left] = right
            return []
        self.leads[right] = left
        if other is None:
            return []
        if known[0] != other[0]:
            raise NoKind("a " + known[0] + " is not alike to a " + other[0])
        return list(zip(known[1:], other[1:]))


def paper(term):
    names = free(term)
    if names != []:
        raise Unbound("free: " + " ".join(names))
    slots = Slots()
    return told_kinds(slots, rows_of(slots, term))


def kind_of(term):
    return paper(term)[0]


# A pile in the place of calls within calls: terms that this program made may be deep.
def rows_of(slots, term):
    rows = []
    pile = [(term, {}, slots.unknown())]
    while pile != []:
        place = pile.pop()
        rows.append(place[2])
        pile.extend(list(reversed(places_within(slots, place[0], place[1], place[2]))))
    return rows


def places_within(slots, term, bound, slot):
    if term[0] == "name":
        slots.make_alike(slot, bound[term[1]])
        return []
    places = []
    for scope, asked in zip(scopes(term), part_slots(slots, term, slot)):
        inner = dict(bound)
        # A name bound here hides one that was bound farther out.
        inner.update(dict(zip(scope[0], asked[0])))
        places.append((scope[1], inner, asked[1]))
    return places


# The rules of point 8: for each part, in order, the slots of the names that the term binds in it, and its own.
def part_slots(slots, term, slot):
    sort = term[0]
    if sort == "number":
        slots.make_alike(slot, slots.known(("num",)))
        return []
    if sort == "does":
        return does_slots(slots, term[1], slot)
    if sort == "fun":
        own = slots.unknown()
        body = slots.unknown()
        slots.make_alike(slot, slots.known(("to", own, body)))
        return [((own,), body)]
    if sort == "call":
        given = slots.unknown()
        return [((), slots.known(("to", given, slot))), ((), given)]
    if sort == "let":
        own = tuple([slots.unknown() for pair in term[1]])
        return [(own, one) for one in own] + [(own, slot)]
    if sort == "shape":
        return shape_slots(slots, term[1], slot)
    if sort == "choose":
        return choose_slots(slots, term[2][0][0], slot)
    if sort == "first":
        return [((), slots.unknown()), ((), slot)]
    if sort == "stop":
        return []
    raise NoKind(f"{sort} have no kind")


def does_slots(slots, op, slot):
    outcome = "truth" if op == "<" or op == "=" else "num"
    slots.make_alike(slot, slots.known((outcome,)))
    number = slots.known(("num",))
    return [((), number), ((), number)]


def shape_slots(slots, shape, slot):
    if shape == "No" or shape == "Yes":
        slots.make_alike(slot, slots.known(("truth",)))
        return []
    one = slots.unknown()
    if shape == "Pair":
        other = slots.unknown()
        slots.make_alike(slot, slots.known(("pair", one, other)))
        return [((), one), ((), other)]
    slots.make_alike(slot, slots.known(("list", one)))
    if shape == "Nil":
        return []
    return [((), one), ((), slot)]


def choose_slots(slots, shape, slot):
    if shape == "No":
        return [((), slots.known(("truth",))), ((), slot), ((), slot)]
    one = slots.unknown()
    if shape == "Pair":
        other = slots.unknown()
        return [((), slots.known(("pair", one, other))), ((one, other), slot)]
    whole = slots.known(("list", one))
    return [((), whole), ((), slot), ((one, whole), slot)]


def told_kinds(slots, rows):
    ready = {}
    opened = []
    for slot in rows:
        make_ready(slots, slots.shared(slot), ready, opened)
    return [ready[slots.shared(slot)] for slot in rows]


# Kinds within come ready from left to right, and each once, so the open ones are numbered as they come first.
def make_ready(slots, slot, ready, opened):
    begun = {}
    pile = [slot]
    while pile != []:
        here = pile.pop()
        if here in ready:
            continue
        form = slots.form_of(here)
        if form is None:
            ready[here] = ("open", len(opened))
            opened.append(here)
            continue
        within = [slots.shared(part) for part in form[1:]]
        if here in begun:
            ready[here] = form[:1] + tuple([ready[part] for part in within])
            continue
        begun[here] = True
        if any([part in begun and part not in ready for part in within]):
            raise NoKind("no kind has itself as a part")
        pile.append(here)
        pile.extend(list(reversed(within)))
