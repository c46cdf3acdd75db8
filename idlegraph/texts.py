"""The reader: which term a text writes (point 7, with the terms and names of point 3).

A tree is a word, or a list of trees for what stands within a pair of brackets.
"""

from idlegraph.errors import NoText
from idlegraph.terms import FAMILIES, FIGURES, OPS, SHAPES, is_name

MOST_FIGURES = 18
MOST_PAIRS = 5


def read(text):
    if not isinstance(text, str):
        raise NoText("what is no text writes no term")
    return term_of(tree_of(words_of(text)))


def words_of(text):
    apart = text.replace("(", " ( ").replace(")", " ) ").replace("\n", " ")
    # A split() without its blank would part words at tabs and other such signs, too.
    return [word for word in apart.split(" ") if word != ""]


def tree_of(words):
    pile = [[]]
    for word in words:
        if word == "(":
            pile.append([])
        elif word != ")":
            pile[-1].append(word)
        elif len(pile) > 1:
            inner = pile.pop()
            pile[-1].append(inner)
        else:
            raise NoText("a bracket too many ends")
    if len(pile) > 1:
        raise NoText("a bracket has no end")
    if len(pile[0]) != 1:
        raise NoText("a text writes one term, neither none nor several")
    return pile[0][0]


def term_of(tree):
    if isinstance(tree, str):
        return word_term(tree)
    if tree == []:
        raise NoText("brackets with nothing within write no term")
    head = tree[0]
    rest = tree[1:]
    if head in OPS:
        return ("does", head) + two_terms(rest)
    if head == "fun":
        return fun_term(rest)
    if head == "let":
        return let_term(rest)
    if head == "choose":
        return choose_term(rest)
    if head == "first":
        return ("first",) + two_terms(rest)
    if head == "stop":
        return stop_term(rest)
    if head == "rows":
        return rows_term(rest)
    if head == "Cons" or head == "Pair":
        return ("shape", head, two_terms(rest))
    return call_term(tree)


def word_term(word):
    if is_name(word):
        return ("name", word)
    if is_number(word):
        return ("number", int(word))
    if SHAPES.get(word) == 0:
        return ("shape", word, ())
    raise NoText(f"{word!r} by itself is no term")


def is_number(word):
    if len(word) < 1 or len(word) > MOST_FIGURES:
        return False
    if word[0] == "0" and word != "0":
        return False
    return all([sign in FIGURES for sign in word])


def two_terms(trees):
    if len(trees) != 2:
        raise NoText("just two terms are to stand here")
    return (term_of(trees[0]), term_of(trees[1]))


def fun_term(trees):
    if len(trees) < 2:
        raise NoText("a fun has a name at least, and a term behind its names")
    term = term_of(trees[-1])
    for tree in reversed(trees[:-1]):
        term = ("fun", name_of(tree), term)
    return term


def call_term(trees):
    if len(trees) < 2:
        raise NoText("a call gives a term at least")
    term = term_of(trees[0])
    for tree in trees[1:]:
        term = ("call", term, term_of(tree))
    return term


def let_term(trees):
    if len(trees) < 2 or len(trees) > MOST_PAIRS + 1:
        raise NoText("a let has one to five names, and a term behind them")
    pairs = tuple([pair_of(tree) for tree in trees[:-1]])
    refuse_alike([name for name, part in pairs])
    return ("let", pairs, term_of(trees[-1]))


def pair_of(tree):
    items = items_of(tree)
    if len(items) != 2:
        raise NoText("a name of a let stands in brackets with its one term")
    return (name_of(items[0]), term_of(items[1]))


def choose_term(trees):
    if trees == []:
        raise NoText("a choose has a term ahead of its alternatives")
    alternatives = tuple([alternative_of(tree) for tree in trees[1:]])
    if tuple([shape for shape, names, body in alternatives]) not in FAMILIES:
        raise NoText("alternatives are just those of one family, in its order")
    return ("choose", term_of(trees[0]), alternatives)


def alternative_of(tree):
    items = items_of(tree)
    if len(items) < 2 or not isinstance(items[0], str):
        raise NoText("an alternative has a shape's word and a term")
    names = tuple([name_of(item) for item in items[1:-1]])
    refuse_alike(names)
    if SHAPES.get(items[0]) != len(names):
        raise NoText("an alternative has a shape's word, and as many names as this has parts")
    return (items[0], names, term_of(items[-1]))


def stop_term(trees):
    if len(trees) != 1:
        raise NoText("a stop has just one word")
    return ("stop", name_of(trees[0]))


def rows_term(trees):
    if trees == []:
        raise NoText("rows have a term ahead of their steps")
    return ("rows", term_of(trees[0]), tuple([step_of(tree) for tree in trees[1:]]))


def step_of(tree):
    items = items_of(tree)
    if len(items) == 2 and items[0] == "when":
        return ("when", term_of(items[1]))
    if len(items) == 3 and (items[0] == "in" or items[0] == "be"):
        return (items[0], name_of(items[1]), term_of(items[2]))
    raise NoText("a step is an in, a when or a be")


def items_of(tree):
    if isinstance(tree, str):
        raise NoText(f"brackets are to stand in the place of {tree!r}")
    return tree


def name_of(tree):
    if not isinstance(tree, str) or not is_name(tree):
        raise NoText("a name is to stand here")
    return tree


def refuse_alike(names):
    if len(set(names)) != len(names):
        raise NoText("names that are bound together are unlike")
