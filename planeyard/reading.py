"""Nets read from texts."""

from planeyard.errors import NoText
from planeyard.things import MOST_PLACES, is_net


def number_of(word):
    # Only the writings that numbers of nets have are looked for: zeros ahead,
    # signs, blanks and figures of other scripts are no such writing.
    for number in range(MOST_PLACES + 1):
        if str(number) == word:
            return number
    return None


def edge_of(word):
    return tuple([number_of(half) for half in word.split("-")])


def read(text):
    words = text.split(" ")
    if words[0] != "net" or len(words) < 2:
        raise NoText("a net's text begins with net and a count")
    # What is no number became None and what is no pair another length, so
    # that is_net finds all that is still wrong.
    net = (number_of(words[1]), tuple([edge_of(word) for word in words[2:]]))
    if not is_net(net):
        raise NoText("this is the writing of no net")
    return net
