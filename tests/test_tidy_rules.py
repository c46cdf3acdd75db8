"""Points 2 and 25 to 27 over many terms: tidy-ups against a slower machine, and log and answer as without them."""

import random
import unittest

from idlegraph import machine, tidy
from idlegraph.machine import Machine
from idlegraph.tidy import reached, tidied
from slow_machine import SlowMachine
from some_terms import busy_term, some_term


# As point 25 tells it, with nothing kept beside the list.
def slow_reached(links, roots):
    told = []
    for root in roots:
        if root in links and (root, None) not in told:
            told.append((root, None))
    for number, leader in told:
        for other in links[number]:
            if other in links and other not in [one for one, by in told]:
                told.append((other, number))
    return told


def slow_run(term, every, depth, most):
    slow = SlowMachine(term, depth)
    gone, tidy_ups = set(), []
    for steps in range(every, most, every):
        if slow.go(steps)[0] != "spent":
            break
        dropped = sorted(set(slow.states) - slow.reached() - gone)
        gone.update(dropped)
        tidy_ups.append((steps, tuple(dropped)))
    return (slow.go(most), tidy_ups)


class Reached(unittest.TestCase):

    def test_many(self):
        chance = random.Random(51)
        for place in range(2000):
            most = chance.randrange(1, 12)
            keys = chance.sample(range(most), chance.randrange(most))
            links = {key: [chance.randrange(most) for link in range(chance.randrange(4))] for key in keys}
            roots = [chance.randrange(most) for root in range(chance.randrange(4))]
            handed = ({key: list(links[key]) for key in links}, list(roots))
            self.assertEqual(reached(links, roots), slow_reached(links, roots), (links, roots))
            self.assertEqual((links, roots), handed)


class Runs(unittest.TestCase):

    def compare(self, term, every, depth, most):
        outcome, tidy_ups = tidy.run(term, every, depth, most)
        self.assertEqual((outcome, tidy_ups), slow_run(term, every, depth, most), (term, every, depth, most))
        self.assertEqual(outcome, machine.run(term, depth, most))
        # Whatever is tidied up, no later row of the log speaks of.
        for steps, dropped in tidy_ups:
            later = {row[1] for row in outcome[3] if row[3] > steps}
            self.assertEqual(later & set(dropped), set(), (term, every, depth, most))
        return sum(len(dropped) for steps, dropped in tidy_ups)

    def test_terms_that_mind_no_kinds(self):
        chance = random.Random(52)
        dropped = sum(self.compare(some_term(chance, chance.randrange(1, 7), []), chance.randrange(1, 9),
                                   chance.randrange(8), chance.choice((10, 60))) for place in range(1500))
        self.assertGreater(dropped, 300)

    def test_terms_that_come_to_the_same_things_over_and_over(self):
        chance = random.Random(53)
        dropped = sum(self.compare(busy_term(chance), chance.choice((1, 2, 3, 5, 16, 50)), chance.randrange(8),
                                   chance.choice((40, 400))) for place in range(250))
        self.assertGreater(dropped, 1000)


class Tidied(unittest.TestCase):

    # Tidied up here and there, by whoever, a machine goes on to the same outcome.
    def test_here_and_there(self):
        chance = random.Random(54)
        for place in range(300):
            term, depth = busy_term(chance), chance.randrange(8)
            one, slow, most, gone = Machine(term, depth), SlowMachine(term, depth), 0, []
            while most < 300:
                most += chance.randrange(1, 40)
                self.assertEqual(one.go(most), slow.go(most))
                if chance.randrange(3) == 0:
                    dropped = tidied(one)
                    self.assertEqual(dropped, sorted(set(slow.states) - slow.reached() - set(gone)))
                    gone.extend(dropped)
                left = [number for number in slow.states if number not in gone]
                self.assertEqual(one.states(), {number: slow.states[number] for number in left})
                self.assertEqual(one.links(), {number: slow.links()[number] for number in left})
                self.assertEqual(one.roots(), slow.roots())
            self.assertEqual(one.go(2000), machine.run(term, depth, 2000))


if __name__ == "__main__":
    unittest.main()
