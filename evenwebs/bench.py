"""The bench: webs kept by names, deeds that change them, and each deed undone again."""

from evenwebs.errors import NoDeed
from evenwebs.errors import NoName
from evenwebs.errors import NoPlaces
from evenwebs.errors import NoWeb
from evenwebs.errors import TooMany
from evenwebs.numbers import evenness
from evenwebs.turning import turned_at
from evenwebs.webs import is_pair
from evenwebs.webs import is_web
from evenwebs.webs import other_web
from evenwebs.webs import web_where

SMALL_LETTERS = "abcdefghijklmnopqrstuvwxyz"
LONGEST_NAME = 8
MOST_NAMES = 12


def is_name(thing):
    if not isinstance(thing, str) or not 1 <= len(thing) <= LONGEST_NAME:
        return False
    return all([sign in SMALL_LETTERS for sign in thing])


def tied_anew(web, one, other):
    pairs = ((one, other), (other, one))
    return web_where(len(web), lambda place, near: (near in web[place]) != ((place, near) in pairs))


class Bench:
    def __init__(self):
        self.kept = {}
        # For each deed that is left: the name and the web that stood there ahead of it, or None.
        self.past = []

    def keep(self, name, web):
        if web is None:
            self.kept.pop(name)
        else:
            self.kept[name] = web

    def do(self, name, web):
        self.past.append((name, self.kept.get(name)))
        self.keep(name, web)

    def put(self, name, web):
        if not is_name(name):
            raise NoName("a name is one to eight small letters")
        if not is_web(web):
            raise NoWeb("only a web is put on the bench")
        if name not in self.kept and len(self.kept) == MOST_NAMES:
            raise TooMany("the bench keeps at most twelve webs")
        self.do(name, web)

    def tie(self, name, one, other):
        web = self.web(name)
        if not is_pair((one, other), len(web)):
            raise NoPlaces("two unlike places of the web are tied")
        self.do(name, tied_anew(web, one, other))

    def turn(self, name, some):
        self.do(name, turned_at(self.web(name), some))

    def turn_about(self, name):
        self.do(name, other_web(self.web(name)))

    def drop(self, name):
        # Asked for its web, a name that isn't there is refused.
        self.web(name)
        self.do(name, None)

    def undo(self):
        if not self.past:
            raise NoDeed("no deed is left to undo")
        last = self.past.pop()
        self.keep(last[0], last[1])

    def names(self):
        return sorted(self.kept)

    def web(self, name):
        # What is no text may not be one that can be looked up at all.
        if not isinstance(name, str) or name not in self.kept:
            raise NoName("no web is kept by this name")
        return self.kept[name]

    def numbers(self, name):
        return evenness(self.web(name))
