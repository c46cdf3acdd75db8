"""The run by names: a thing's text is run as often as the thing is entered (points 12 to 17)."""

from idlegraph.runner import Runner


def run(term, depth=8, most=400):
    return Runner(term, depth).go(most)
