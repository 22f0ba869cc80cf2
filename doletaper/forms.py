"""Forms of rows: which sort of word stands at which place of a row, and what a word of each sort writes."""

from doletaper.errors import NoWord
from doletaper.people import MOST_COINS, OLDEST
from doletaper.words import name_read, rate_read, whole_read

AGES = ("LOW", "HIGH")
MOST_HEADS = 60
WAYS = ("down", "up", "near")


def most_of(sort):
    if sort in AGES:
        return OLDEST
    return MOST_HEADS if sort == "MANY" else MOST_COINS


def unit_read(word):
    unit = whole_read(word, MOST_COINS)
    if unit == 0:
        raise NoWord("a unit is from 1 on")
    return unit


def way_read(word):
    if word not in WAYS:
        raise NoWord("a way is down, up or near")
    return word


def word_read(sort, word):
    if sort == "NAME":
        return name_read(word)
    if sort == "RATE":
        return rate_read(word)
    if sort == "UNIT":
        return unit_read(word)
    if sort == "WAY":
        return way_read(word)
    return whole_read(word, most_of(sort))


def words_read(form, words):
    sorts = form.split(" ")
    if len(words) != len(sorts):
        raise NoWord("the row has too few or too many words")
    return [word_read(sort, word) for sort, word in zip(sorts, words)]
