"""Towns: persons, and who of them live in one home."""

from doletaper.errors import Twice, Unknown
from doletaper.steps import steps_from


def persons_by_name(people):
    persons = {}
    for who in people:
        if who[0] in persons:
            raise Twice(who[0])
        persons[who[0]] = who
    return persons


def check_known(persons, name):
    if name not in persons:
        raise Unknown(name)


def neighbours_by_name(persons, pairs):
    neighbours = {}
    for name in persons:
        neighbours[name] = []
    for one, other in pairs:
        check_known(persons, one)
        check_known(persons, other)
        neighbours[one].append(other)
        neighbours[other].append(one)
    return neighbours


class Town:
    def __init__(self, people, pairs):
        self.persons = persons_by_name(people)
        self.neighbours = neighbours_by_name(self.persons, pairs)

    def names(self):
        return sorted(self.persons)

    def homes(self):
        found = []
        housed = {}
        for name in self.names():
            if name not in housed:
                home = self.home(name)
                found.append(home)
                for who in home:
                    housed[who[0]] = True
        return found

    def home(self, name):
        check_known(self.persons, name)
        return [self.persons[mate] for mate in sorted(steps_from(self.neighbours, [name]))]

    def chain(self, one, other):
        check_known(self.persons, one)
        check_known(self.persons, other)
        # Gone from the end, so that the steps go back from the beginning to it.
        steps = steps_from(self.neighbours, [other])
        if one not in steps:
            return None
        links = [one]
        while links[-1] != other:
            links.append(steps[links[-1]])
        return links
