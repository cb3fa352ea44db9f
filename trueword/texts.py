"""Texts: numbers, houses, weights and handicaps as the rows of a desk write them."""

from trueword.errors import NoWeight
from trueword.houses import house_of

MOST_FIGURES = 60


def are_figures(text):
    return 1 <= len(text) <= MOST_FIGURES and all(["0" <= sign <= "9" for sign in text])


def number_of(text):
    figures = text[1:] if text.startswith("-") else text
    # Each number is written in one way alone: so no 0 ahead of other figures, and no -0.
    if not are_figures(figures) or str(int(text)) != text:
        return None
    return int(text)


def numbers_of(words):
    # What is no number is told as None, for which houses, weights and handicaps are refused with the class they tell.
    return [number_of(word) for word in words]


def hand_from(text):
    parts = text.split(" = ")
    sayings = [part.split(" ") for part in parts[1:]]
    return (parts[0], [saying[0] for saying in sayings], [numbers_of(saying[1:]) for saying in sayings])


def read_house(text):
    parts = text.split(" / ")
    return house_of(parts[0].split(" "), [hand_from(part) for part in parts[1:]])


def read_weights(text):
    parts = text.split(" / ")
    if len(parts) != 2:
        raise NoWeight("weights, a / and handicaps are told")
    return (numbers_of(parts[0].split(" ")), numbers_of(parts[1].split(" ")))
