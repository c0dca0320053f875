"""Webs written as texts, and read back."""

from fewties.errors import NoText
from fewties.webs import is_web

FIGURES = "0123456789"


def show_tie(tie):
    """Tell the writing of a tie."""
    a, b = tie
    return f"{a}-{b}"


def show_web(web):
    """Tell the writing of a web."""
    n, ties = web
    return " ".join([str(n)] + [show_tie(tie) for tie in ties])


def number_of(word):
    """Tell the number that one or two figures write, no 0 ahead of two; None of any other word."""
    if len(word) not in (1, 2) or not all([sign in FIGURES for sign in word]):
        return None
    if len(word) == 2 and word[0] == "0":
        return None
    return int(word)


def tie_of(word):
    """Tell the tuple that the word writes with - between; it is a tie only where the word writes one."""
    return tuple([number_of(part) for part in word.split("-")])


def read_web(text):
    """Tell the web that the text writes."""
    if not isinstance(text, str):
        raise NoText("this is no text")
    first, *others = text.split(" ")
    web = (number_of(first), [tie_of(word) for word in others])
    # A word that is written wrong has left a None or a tuple of another length, which no web has.
    if not is_web(web):
        raise NoText("this text writes no web")
    return web
