"""Webs as texts: written, and read again."""

from evenwebs.errors import NoText
from evenwebs.webs import MOST_PLACES
from evenwebs.webs import web_of

TIED = "#"
APART = "."


def word_of(web, place):
    return "".join([TIED if below in web[place] else APART for below in range(place)])


def written(web):
    words = [word_of(web, place) for place in range(1, len(web))]
    return " ".join([str(len(web))] + words)


def is_word(word, place):
    return len(word) == place and word.count(TIED) + word.count(APART) == place


def are_words(words):
    # As many words as places: the figures stand where the word of place 0 would.
    many = len(words)
    if many > MOST_PLACES or words[0] != str(many):
        return False
    return all([is_word(words[place], place) for place in range(1, many)])


def pairs_in(words):
    pairs = []
    for place in range(1, len(words)):
        pairs.extend([(below, place) for below in range(place) if words[place][below] == TIED])
    return pairs


def read(text):
    if not isinstance(text, str):
        raise NoText("a web is read from a text alone")
    words = text.split(" ")
    if not are_words(words):
        raise NoText("no web is written so")
    return web_of(len(words), pairs_in(words))
