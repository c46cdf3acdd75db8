"""The writer: the text that shows a term (point 7, its last sentences).

A term is opened up step by step into pieces: words, which are texts, and the terms that stand between them.
"""


def show(term):
    words = []
    pile = [term]
    while pile != []:
        piece = pile.pop()
        if isinstance(piece, str):
            words.append(piece)
        else:
            pile.extend(list(reversed(pieces_of(piece))))
    return " ".join(words).replace("( ", "(").replace(" )", ")")


def pieces_of(term):
    sort = term[0]
    if sort == "name":
        return [term[1]]
    if sort == "number":
        return [str(term[1])]
    if sort == "shape" and term[2] == ():
        return [term[1]]
    return ["("] + inner_pieces(term) + [")"]


def inner_pieces(term):
    sort = term[0]
    if sort == "does":
        return [term[1], term[2], term[3]]
    if sort == "fun":
        return fun_pieces(term)
    if sort == "call":
        return call_pieces(term)
    if sort == "let":
        return ["let"] + bracketed([[name, part] for name, part in term[1]]) + [term[2]]
    if sort == "shape":
        return [term[1]] + list(term[2])
    if sort == "choose":
        alternatives = [[shape] + list(names) + [body] for shape, names, body in term[2]]
        return ["choose", term[1]] + bracketed(alternatives)
    if sort == "rows":
        # A step holds its words and its term in the order in which they are written.
        return ["rows", term[1]] + bracketed([list(step) for step in term[2]])
    # So does a first, and a stop.
    return list(term)


def fun_pieces(term):
    pieces = ["fun"]
    while term[0] == "fun":
        pieces.append(term[1])
        term = term[2]
    return pieces + [term]


def call_pieces(term):
    given = []
    while term[0] == "call":
        given.append(term[2])
        term = term[1]
    return [term] + list(reversed(given))


def bracketed(groups):
    pieces = []
    for group in groups:
        pieces.extend(["("] + group + [")"])
    return pieces
