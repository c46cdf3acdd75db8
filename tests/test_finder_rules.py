"""Points 8 and 9 over many terms: papers that are told hold by the rules, and are those of a slower finder."""

import random
import unittest

from idlegraph.errors import NoKind
from idlegraph.finder import paper
from idlegraph.terms import free, parts
from idlegraph.texts import read
from some_terms import some_term

NUM = ("num",)
TRUTH = ("truth",)


def many(term):
    return 1 + sum(many(part) for part in parts(term))


# The rules of point 8 as they stand there, asked of a paper that is there already.
class Holding:

    def __init__(self, rows):
        self.rows = rows

    def asks(self, term, at, bound):
        sort, kind = term[0], self.rows[at]
        places = [at + 1]
        for part in parts(term):
            places.append(places[-1] + many(part))
        kinds = [self.rows[place] for place in places[:-1]]
        binds = [{} for part in kinds]
        if sort == "name":
            fits = kind == bound[term[1]]
        elif sort == "number":
            fits = kind == NUM
        elif sort == "does":
            fits = kinds == [NUM, NUM] and kind == (TRUTH if term[1] in "<=" else NUM)
        elif sort == "fun":
            fits = kind[0] == "to" and kind[2] == kinds[0]
            binds = [{term[1]: kind[1]}]
        elif sort == "call":
            fits = kinds[0] == ("to", kinds[1], kind)
        elif sort == "let":
            fits = kind == kinds[-1]
            binds = [{pair[0]: own for pair, own in zip(term[1], kinds)}] * len(kinds)
        elif sort == "shape":
            fits = self.fits_shape(term[1], kind, kinds)
        elif sort == "choose":
            fits = kinds[1:] == [kind] * len(term[2]) and self.fits_family(term[2][0][0], kinds[0])
            binds = [{}] + [self.names_of(shape, names, kinds[0]) for shape, names, body in term[2]]
        elif sort == "first":
            fits = kind == kinds[1]
        else:
            fits = sort == "stop"
        return fits and all(self.asks(part, place, {**bound, **own})
                            for part, place, own in zip(parts(term), places, binds))

    def fits_shape(self, shape, kind, kinds):
        if shape == "Nil":
            return kind[0] == "list"
        if shape == "Cons":
            return kind == ("list", kinds[0]) and kinds[1] == kind
        if shape == "Pair":
            return kind == ("pair", kinds[0], kinds[1])
        return kind == TRUTH

    def fits_family(self, shape, kind):
        return kind[0] == {"Nil": "list", "No": "truth", "Pair": "pair"}[shape]

    def names_of(self, shape, names, kind):
        if shape == "Cons":
            return {names[0]: kind[1], names[1]: kind}
        return dict(zip(names, kind[1:]))


def holds(term, rows):
    return len(rows) == many(term) and Holding(rows).asks(term, 0, {})


class Misfit(Exception):
    pass


# A finder that goes from the inner parts outwards and puts kinds in everywhere as soon as they are known.
class Slow:

    def __init__(self):
        self.rows = []
        self.put_in = {}
        self.next_open = 0

    def new(self):
        self.next_open += 1
        return ("open", self.next_open)

    def full(self, kind):
        if kind[0] == "open":
            return self.full(self.put_in[kind]) if kind in self.put_in else kind
        return kind[:1] + tuple(self.full(part) for part in kind[1:])

    def within(self, one, kind):
        return one == kind or kind[0] != "open" and any(self.within(one, part) for part in kind[1:])

    def same(self, one, other):
        one, other = self.full(one), self.full(other)
        if one == other:
            return
        if other[0] == "open":
            one, other = other, one
        if one[0] == "open":
            if self.within(one, other):
                raise Misfit
            self.put_in[one] = other
            return
        if one[0] != other[0]:
            raise Misfit
        for left, right in zip(one[1:], other[1:]):
            self.same(left, right)

    def visit(self, term, bound):
        at = len(self.rows)
        self.rows.append(None)
        self.rows[at] = self.found(term, bound)
        return self.rows[at]

    def found(self, term, bound):
        sort = term[0]
        if sort == "name":
            return bound[term[1]]
        if sort == "number":
            return NUM
        if sort == "stop":
            return self.new()
        if sort == "does":
            self.same(self.visit(term[2], bound), NUM)
            self.same(self.visit(term[3], bound), NUM)
            return TRUTH if term[1] in "<=" else NUM
        if sort == "fun":
            own = self.new()
            return ("to", own, self.visit(term[2], {**bound, term[1]: own}))
        if sort == "call":
            fun, given, outcome = self.visit(term[1], bound), self.visit(term[2], bound), self.new()
            self.same(fun, ("to", given, outcome))
            return outcome
        if sort == "let":
            inner = {**bound, **{name: self.new() for name, part in term[1]}}
            for name, part in term[1]:
                self.same(inner[name], self.visit(part, inner))
            return self.visit(term[2], inner)
        if sort == "shape":
            return self.shape(term[1], [self.visit(part, bound) for part in term[2]])
        if sort == "choose":
            return self.choose(term, bound)
        self.visit(term[1], bound)
        return self.visit(term[2], bound)

    def shape(self, shape, kinds):
        if shape == "Pair":
            return ("pair", kinds[0], kinds[1])
        if shape == "Nil":
            return ("list", self.new())
        if shape == "Cons":
            self.same(("list", kinds[0]), kinds[1])
            return kinds[1]
        return TRUTH

    def choose(self, term, bound):
        one, other, outcome = self.new(), self.new(), self.new()
        whole = {"Nil": ("list", one), "No": TRUTH, "Pair": ("pair", one, other)}[term[2][0][0]]
        self.same(self.visit(term[1], bound), whole)
        for shape, names, body in term[2]:
            given = (one, whole) if shape == "Cons" else (one, other)
            self.same(self.visit(body, {**bound, **dict(zip(names, given))}), outcome)
        return outcome


def numbered(kind, numbers):
    if kind[0] == "open":
        return ("open", numbers.setdefault(kind, len(numbers)))
    return kind[:1] + tuple([numbered(part, numbers) for part in kind[1:]])


def slow_paper(term):
    slow = Slow()
    slow.visit(term, {})
    numbers = {}
    return [numbered(slow.full(kind), numbers) for kind in slow.rows]


class Papers(unittest.TestCase):

    def test_the_rules_see_papers_that_do_not_hold(self):
        identity = read("(fun x x)")
        self.assertTrue(holds(identity, [("to", NUM, NUM), NUM]))
        self.assertFalse(holds(identity, [("to", NUM, TRUTH), TRUTH]))
        self.assertFalse(holds(identity, [("to", NUM, NUM), TRUTH]))
        self.assertFalse(holds(identity, [("to", NUM, NUM)]))

    def test_the_slower_finder_refuses(self):
        for text in ("(fun x (x x))", "(+ 1 Yes)", "(let (i (fun x x)) (i i))"):
            with self.assertRaises(Misfit):
                slow_paper(read(text))

    def test_over_many_terms(self):
        chance = random.Random(11)
        told, refused = 0, 0
        for place in range(6000):
            term = some_term(chance, chance.randrange(1, 6), [])
            self.assertEqual(free(term), [])
            try:
                wanted = slow_paper(term)
            except Misfit:
                refused += 1
                with self.assertRaises(NoKind, msg=term):
                    paper(term)
                continue
            told += 1
            self.assertEqual(paper(term), wanted, term)
            self.assertTrue(holds(term, wanted), term)
        self.assertGreater(told, 1000)
        self.assertGreater(refused, 1000)


if __name__ == "__main__":
    unittest.main()
