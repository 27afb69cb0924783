"""Writing a round and a list of numbers as a text, and reading such a text."""

from sumrests.errors import BadText
from sumrests.rounds import is_round

GREATEST_NUMBER = 1000000000000
MOST_FIGURES = 13
MOST_NUMBERS = 60
FIGURES = "0123456789"


def shown(numbers, n):
    return f"{n}:" + "".join([f" {number}" for number in numbers])


def read(text):
    parts = text.split(":")
    if len(parts) != 2:
        raise BadText("a text has one colon")
    n = read_round(parts[0])
    return (read_numbers(parts[1]), n)


def read_round(word):
    n = read_number(word)
    if not is_round(n):
        raise BadText("no round stands ahead of the colon")
    return n


def read_numbers(text):
    words = text.split(" ")
    # A blank stands ahead of each number, so nothing lies ahead of the first blank.
    if words[0] != "":
        raise BadText("a blank stands behind the colon, or nothing")
    if len(words) - 1 > MOST_NUMBERS:
        raise BadText(f"a list has at most {MOST_NUMBERS} numbers")
    return [read_number(word) for word in words[1:]]


def read_number(word):
    figures = word[1:] if word.startswith("-") else word
    if figures == "" or not all([sign in FIGURES for sign in figures]):
        raise BadText("a number has figures alone, and - ahead where it is below nought")
    if figures.startswith("0") and word != "0":
        raise BadText("a needless nought, or - ahead of nought")
    # Asked ahead of int, which refuses very many figures with an error of its own.
    if len(figures) > MOST_FIGURES or int(figures) > GREATEST_NUMBER:
        raise BadText(f"a number lies from -{GREATEST_NUMBER} to {GREATEST_NUMBER}")
    return int(word)
