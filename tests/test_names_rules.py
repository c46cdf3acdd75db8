"""Points 2 and 12 to 17 over many terms: runs by names are those of a slower runner, and go by their terms' kinds."""

import random
import unittest

from idlegraph.errors import NoKind
from idlegraph.finder import kind_of
from idlegraph.names import run
from idlegraph.terms import free
from idlegraph.texts import read
from some_terms import some_kind, some_term, term_of


class Ended(Exception):
    pass


# Here a value is found by calls within calls, with no pile, and no mark is put anywhere: what names stand for is kept
# beside the terms. So a part is a mark where it is a name.
class Slow:

    def __init__(self, most):
        self.most = most
        self.steps, self.cells, self.firsts = 0, 0, 0
        self.things = []
        self.log = []

    def step(self):
        if self.steps == self.most:
            raise Ended("spent", "")
        self.steps += 1

    def note(self, event, number):
        self.log.append((event, number, self.things[number][0], self.steps))

    def born(self, label, text, bound):
        self.things.append((label, text, bound))
        self.note("born", len(self.things) - 1)
        return len(self.things) - 1

    def thing(self, label, text, bound):
        return bound[text[1]] if text[0] == "name" else self.born(label, text, bound)

    def entered(self, number):
        self.step()
        self.note("enter", number)
        value = self.value(self.things[number][1], self.things[number][2])
        self.note("back", number)
        return value

    def wanted(self, fits):
        if not fits:
            raise Ended("stuck", "")
        self.step()

    def value(self, term, bound):
        sort = term[0]
        if sort == "number":
            return term
        if sort == "fun":
            return ("fun", term[1], term[2], bound)
        if sort == "stop":
            raise Ended("stop", term[1])
        if sort == "name":
            return self.entered(bound[term[1]])
        self.step()
        if sort == "call":
            fun = self.value(term[1], bound)
            self.wanted(fun[0] == "fun")
            return self.value(fun[2], {**fun[3], fun[1]: self.thing(fun[1], term[2], bound)})
        if sort == "does":
            return self.done(term, bound)
        if sort == "choose":
            return self.chosen(term, bound)
        if sort == "first":
            self.firsts += 1
            self.value(term[1], bound)
            self.step()
            return self.value(term[2], bound)
        if sort == "let":
            inner = dict(bound)
            for name, text in term[1]:
                inner[name] = self.born(name, text, inner)
            return self.value(term[2], inner)
        self.cells += term[1] == "Cons"
        labels = [f"{term[1]}.1", f"{term[1]}.2"]
        return ("made", term[1], [self.thing(label, part, bound) for label, part in zip(labels, term[2])])

    def done(self, term, bound):
        one = self.value(term[2], bound)
        self.wanted(one[0] == "number")
        other = self.value(term[3], bound)
        self.wanted(other[0] == "number")
        one, other = one[1], other[1]
        if term[1] in "<=":
            return ("made", "Yes" if (one < other if term[1] == "<" else one == other) else "No", [])
        return ("number", {"+": one + other, "-": one - other, "*": one * other}[term[1]] % 10 ** 18)

    def chosen(self, term, bound):
        value = self.value(term[1], bound)
        bodies = {shape: (names, body) for shape, names, body in term[2]}
        self.wanted(value[0] == "made" and value[1] in bodies)
        names, body = bodies[value[1]]
        return self.value(body, {**bound, **dict(zip(names, value[2]))})

    def told(self, value, depth):
        if value[0] == "number":
            return str(value[1])
        if value[0] == "fun":
            return "fun"
        words = [value[1]]
        for number in value[2]:
            words.append("?" if depth == 1 else self.told(self.entered(number), depth - 1))
        return " ".join(words) if len(words) == 1 else "(" + " ".join(words) + ")"


def slow_run(term, depth, most):
    slow = Slow(most)
    try:
        ended = ("told", "?" if depth == 0 else slow.told(slow.value(term, {}), depth))
    except Ended as end:
        ended = end.args
    return (*ended, (slow.steps, slow.cells, slow.firsts), slow.log)


def tree_of(words):
    word = words.pop(0)
    if word != "(":
        return word
    tree = []
    while words[0] != ")":
        tree.append(tree_of(words))
    words.pop(0)
    return tree


def is_answer(kind, tree):
    if tree == "?":
        return True
    if kind[0] == "num":
        return isinstance(tree, str) and tree.isdigit()
    if kind[0] == "truth":
        return tree in ("No", "Yes")
    if kind[0] == "to":
        return tree == "fun"
    if kind[0] == "list":
        return tree == "Nil" or tree[0] == "Cons" and is_answer(kind[1], tree[1]) and is_answer(kind, tree[2])
    if kind[0] == "pair":
        return tree[0] == "Pair" and is_answer(kind[1], tree[1]) and is_answer(kind[2], tree[2])
    return False


def is_of(kind, text):
    return is_answer(kind, tree_of(text.replace("(", "( ").replace(")", " )").split()))


class Runs(unittest.TestCase):

    def compare(self, term, chance):
        depth, most = chance.randrange(7), chance.choice((0, 1, 5, 20, 100, 150))
        outcome = run(term, depth, most)
        self.assertEqual(outcome, slow_run(term, depth, most), (term, depth, most))
        return outcome

    def test_of_terms_that_mind_no_kinds(self):
        chance = random.Random(5)
        words = {"told": 0, "stop": 0, "stuck": 0, "spent": 0}
        for place in range(6000):
            words[self.compare(some_term(chance, chance.randrange(1, 6), []), chance)[0]] += 1
        self.assertGreater(min(words.values()), 200, words)

    def test_of_terms_that_have_a_kind(self):
        chance = random.Random(6)
        words = {"told": 0, "stop": 0, "spent": 0}
        for place in range(3000):
            term = term_of(chance, some_kind(chance, 2), chance.randrange(1, 6), {})
            self.assertEqual(free(term), [])
            words[self.compare(term, chance)[0]] += 1
        self.assertGreater(min(words.values()), 50, words)


class Kinds(unittest.TestCase):

    def test_answers_are_seen_that_are_not_of_their_kind(self):
        num, truth = ("num",), ("truth",)
        for kind, told, others in (
                (num, ("0", "12", "?"), ("Yes", "fun", "Nil", "(Cons 1 Nil)", "(Pair 1 2)")),
                (truth, ("No", "Yes", "?"), ("1", "fun", "Nil", "(Pair Yes No)")),
                (("to", num, num), ("fun", "?"), ("1", "Yes", "Nil")),
                (("list", num), ("Nil", "(Cons 1 Nil)", "(Cons ? (Cons 2 ?))", "?"),
                 ("(Cons Yes Nil)", "(Cons 1 2)", "(Cons 1 (Cons fun Nil))", "(Pair 1 Nil)", "3", "fun")),
                (("pair", num, truth), ("(Pair 1 No)", "(Pair ? Yes)", "?"), ("(Pair No 1)", "(Cons 1 No)", "Yes")),
                (("open", 0), ("?",), ("1", "Yes", "fun", "Nil", "(Pair 1 2)"))):
            for text in told:
                self.assertTrue(is_of(kind, text), (kind, text))
            for text in others:
                self.assertFalse(is_of(kind, text), (kind, text))

    def check(self, term, depth, most):
        try:
            kind = kind_of(term)
        except NoKind:
            return "no kind"
        outcome = run(term, depth, most)
        self.assertNotEqual(outcome[0], "stuck", term)
        if outcome[0] == "told":
            self.assertTrue(is_of(kind, outcome[1]), (term, kind, outcome[1]))
        return outcome[0]

    def test_some_terms(self):
        for text in ("(let (ones (Cons 1 ones)) ones)", "(Pair (fun x x) (Cons Yes Nil))", "(first Nil (< 1 2))", "Nil",
                     "(let (nats (fun n (Cons n (nats (+ n 1))))) (Pair (nats 3) (nats 4)))", "(fun x x)",
                     "(Cons (Pair 1 (fun x Nil)) Nil)", "(let (x x) x)", "(let (x x) (Cons x Nil))"):
            for depth in (0, 1, 2, 3, 8):
                with self.subTest(text=text, depth=depth):
                    self.assertIn(self.check(read(text), depth, 400), ("told", "spent"))

    def test_many_terms_that_have_a_kind(self):
        chance = random.Random(7)
        ends = [self.check(term_of(chance, some_kind(chance, 3), chance.randrange(1, 7), {}),
                           chance.randrange(9), chance.choice((20, 400))) for place in range(3000)]
        self.assertGreater(ends.count("told"), 1000)
        self.assertEqual(ends.count("no kind"), 0)

    def test_many_terms_that_mind_no_kinds(self):
        chance = random.Random(8)
        ends = [self.check(some_term(chance, chance.randrange(1, 6), []), chance.randrange(9), 400)
                for place in range(4000)]
        self.assertGreater(ends.count("told"), 500)
        self.assertGreater(ends.count("no kind"), 500)


if __name__ == "__main__":
    unittest.main()
