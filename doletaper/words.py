"""Words: whole numbers, rates and names as they are written in rows, and fractions as they are shown."""

from doletaper.errors import NoWord
from doletaper.people import is_name
from doletaper.ratios import common_divisor

FIGURES = "0123456789"
MOST_FIGURES = 10
MOST_OF_RATES = 9999


def is_written_whole(text):
    if text == "" or len(text) > MOST_FIGURES:
        return False
    if text[0] == "0" and text != "0":
        return False
    return all([sign in FIGURES for sign in text])


def whole_read(text, most):
    if not is_written_whole(text):
        raise NoWord("a whole number has one to ten figures, no nought ahead")
    number = int(text)
    if number > most:
        raise NoWord("the whole number is above the most that it may be")
    return number


def rate_read(text):
    if "/" not in text:
        return (whole_read(text, MOST_OF_RATES), 1)
    # Behind the first / the bottom alone may stand: a second / is no figure.
    written = text.partition("/")
    top = whole_read(written[0], MOST_OF_RATES)
    bottom = whole_read(written[2], MOST_OF_RATES)
    if bottom < 2 or common_divisor(top, bottom) != 1:
        raise NoWord("a rate is written in lowest terms, its bottom from 2 on")
    return (top, bottom)


def rate_shown(one):
    top = one[0]
    bottom = one[1]
    if bottom == 1:
        return str(top)
    return f"{top}/{bottom}"


def name_read(text):
    if not is_name(text):
        raise NoWord("a name has one to eight small letters a to z")
    return text
