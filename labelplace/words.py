"""The words of a plan's lines: numbers, names and places, each told as None by a word that is none."""

from labelplace.ways import WAYS

# Written out, since Python's own isdigit and islower let by signs of other scripts.
FIGURES = "0123456789"
LETTERS = "abcdefghijklmnopqrstuvwxyz"
MOST_FIGURES = 60
MOST_LETTERS = 8
MOST_PLACES = 6


def is_made_of(word, signs, most):
    return 1 <= len(word) <= most and all([sign in signs for sign in word])


def is_name(word):
    return is_made_of(word, LETTERS, MOST_LETTERS)


def number_in(word):
    if not is_made_of(word, FIGURES, MOST_FIGURES):
        return None
    if word[0] == "0" and word != "0":
        return None
    return int(word)


def numbers_in(words):
    numbers = [number_in(word) for word in words]
    if None in numbers:
        return None
    return tuple(numbers)


def place_in(word):
    halves = word.split(":")
    if len(halves) != 2 or halves[0] not in WAYS:
        return None
    price = number_in(halves[1])
    if price is None:
        return None
    return (halves[0], price)


def places_in(words):
    if not 1 <= len(words) <= MOST_PLACES:
        return None
    places = [place_in(word) for word in words]
    if None in places:
        return None
    ways = [place[0] for place in places]
    if len(set(ways)) != len(ways):
        return None
    return tuple(places)


def point_in(words):
    numbers = numbers_in(words[1:4])
    places = places_in(words[4:])
    if places is None or numbers is None or not is_name(words[0]):
        return None
    return (words[0], numbers[0], numbers[1], numbers[2], places)
