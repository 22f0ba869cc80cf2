"""Towns: persons, and who of them live in one home."""

from doletaper.errors import Twice, Unknown


def persons_by_name(people):
    persons = {}
    for who in people:
        if who[0] in persons:
            raise Twice(who[0])
        persons[who[0]] = who
    return persons


def check_known(persons, name):
    if name not in persons:
        raise Unknown(name)


def neighbours_by_name(persons, pairs):
    neighbours = {}
    for name in persons:
        neighbours[name] = []
    for one, other in pairs:
        check_known(persons, one)
        check_known(persons, other)
        neighbours[one].append(other)
        neighbours[other].append(one)
    return neighbours


def steps_back_to(neighbours, goal):
    # Each name is stepped on to once, from a name that was there ahead of it: so going back comes to no name twice.
    steps = {goal: None}
    waiting = [goal]
    while waiting:
        name = waiting.pop()
        for neighbour in neighbours[name]:
            if neighbour not in steps:
                steps[neighbour] = name
                waiting.append(neighbour)
    return steps


class Town:
    def __init__(self, people, pairs):
        self.persons = persons_by_name(people)
        self.neighbours = neighbours_by_name(self.persons, pairs)

    def names(self):
        return sorted(self.persons)

    def homes(self):
        found = []
        housed = {}
        for name in self.names():
            if name not in housed:
                home = self.home(name)
                found.append(home)
                for who in home:
                    housed[who[0]] = True
        return found

    def home(self, name):
        check_known(self.persons, name)
        return [self.persons[mate] for mate in sorted(steps_back_to(self.neighbours, name))]

    def chain(self, one, other):
        check_known(self.persons, one)
        check_known(self.persons, other)
        steps = steps_back_to(self.neighbours, other)
        if one not in steps:
            return None
        links = [one]
        while links[-1] != other:
            links.append(steps[links[-1]])
        return links
