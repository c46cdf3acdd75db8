"""Kinds: how they are shown, and how many parts they have (points 8 and 10)."""


def kinds_within(kind):
    if kind[0] == "open":
        return ()
    return kind[1:]


def show_kind(kind):
    if kind[0] == "open":
        return "any" + str(kind[1])
    if kinds_within(kind) == ():
        return kind[0]
    words = [kind[0]]
    for part in kinds_within(kind):
        words.append(show_kind(part))
    return "(" + " ".join(words) + ")"


def size(kind):
    many = 1
    for part in kinds_within(kind):
        many = many + size(part)
    return many
