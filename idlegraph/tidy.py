"""The tidy-up: what is reached from the roots stays, all else is dropped (points 25 to 27)."""

from idlegraph.machine import Machine


def reached(links, roots):
    return list(leaders_of(links, roots).items())


# For each thing reached who led there, in the order in which they are told: a dict keeps the order of its keys.
def leaders_of(links, roots):
    leaders = {}
    for number in roots:
        if number in links:
            leaders[number] = None
    order = list(leaders)
    place = 0
    while place < len(order):
        leader = order[place]
        for number in links[leader]:
            if number not in leaders and number in links:
                leaders[number] = leader
                order.append(number)
        place = place + 1
    return leaders


def tidied(machine):
    links = machine.all_leads()
    stay = leaders_of(links, machine.roots())
    dropped = sorted([number for number in links if number not in stay])
    machine.drop(dropped)
    return dropped


def run(term, every, depth=8, most=400):
    machine = Machine(term, depth)
    tidy_ups = []
    due = every
    # Below 1 there would be no end of it, and nothing is tidied up.
    while every > 0 and due < most:
        machine.advance(due)
        if machine.ending is not None:
            break
        tidy_ups.append((due, tuple(tidied(machine))))
        due = due + every
    return (machine.go(most), tidy_ups)
