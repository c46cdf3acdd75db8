"""Terms made anew: the same term with other parts in the place of its own (points 3 and 4)."""


# What parts of idlegraph.terms tells apart is put together again here, in the same order.
def with_parts(term, given):
    sort = term[0]
    if sort == "does":
        return ("does", term[1], given[0], given[1])
    if sort == "call" or sort == "first":
        return (sort, given[0], given[1])
    if sort == "fun":
        return ("fun", term[1], given[0])
    if sort == "let":
        return ("let", with_lasts(term[1], given[:-1]), given[-1])
    if sort == "shape":
        return ("shape", term[1], tuple(given))
    if sort == "choose":
        return ("choose", given[0], with_lasts(term[2], given[1:]))
    if sort == "rows":
        return ("rows", given[0], with_lasts(term[2], given[1:]))
    return term


# Of a let's pair, an alternative and a step alike, the term stands last.
def with_lasts(tuples, lasts):
    return tuple([one[:-1] + (last,) for one, last in zip(tuples, lasts)])
