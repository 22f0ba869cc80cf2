"""Going from name to name: all names that one comes to from some of them."""


def steps_from(neighbours, starts):
    # Each name is stepped on to once, from a name that was there ahead of it: so going back comes to no name twice.
    steps = {}
    for start in starts:
        steps[start] = None
    waiting = list(starts)
    while waiting:
        name = waiting.pop()
        for neighbour in neighbours[name]:
            if neighbour not in steps:
                steps[neighbour] = name
                waiting.append(neighbour)
    return steps
