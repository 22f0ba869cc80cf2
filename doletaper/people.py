"""Persons, tuples (name, age, pay, rent), and homes, lists of persons in the order of their names."""

from doletaper.errors import NoPerson

LETTERS = "abcdefghijklmnopqrstuvwxyz"
LONGEST_NAME = 8
OLDEST = 150
MOST_COINS = 1000000000


def is_name(thing):
    if not isinstance(thing, str) or thing == "" or len(thing) > LONGEST_NAME:
        return False
    return all([sign in LETTERS for sign in thing])


def is_whole_to(thing, most):
    # Python counts truths among its whole numbers, the document doesn't.
    if not isinstance(thing, int) or isinstance(thing, bool):
        return False
    return 0 <= thing and thing <= most


def person(name, age, pay, rent):
    if not is_name(name):
        raise NoPerson("a name has one to eight small letters a to z")
    if not is_whole_to(age, OLDEST):
        raise NoPerson("an age is a whole number from 0 to 150")
    if not is_whole_to(pay, MOST_COINS) or not is_whole_to(rent, MOST_COINS):
        raise NoPerson("pay and rent are whole numbers from 0 to 10 ** 9")
    return (name, age, pay, rent)


def of_ages(home, low, high):
    return [who for who in home if low <= who[1] and who[1] <= high]


def heads(home, low, high):
    return len(of_ages(home, low, high))


def pay_of(home, low, high):
    return sum([who[2] for who in of_ages(home, low, high)])


def rent_of(home):
    return sum([who[3] for who in home])


def with_pay(home, name, pay):
    if not is_whole_to(pay, MOST_COINS):
        raise NoPerson("a pay is a whole number from 0 to 10 ** 9")
    if name not in [who[0] for who in home]:
        raise NoPerson("nobody of the home bears the name")
    return [(who[0], who[1], pay, who[3]) if who[0] == name else who for who in home]
