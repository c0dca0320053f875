"""A desk with webs by names, which is told rows and answers each with a text."""

from fewties.errors import NoName, NoRow
from fewties.farthest import farthest_two, middles
from fewties.hubs import hubs_for
from fewties.putin import best_tie, with_ties
from fewties.texts import number_of, read_web, show_tie, show_web
from fewties.webs import how_far

LETTERS = "abcdefghijklmnopqrstuvwxyz"
MOST_LETTERS = 8

# How many numbers stand behind the name; behind that of a web row stands a text.
NUMBERS = {"tie": 2, "drop": 0, "far": 2, "farthest": 0, "middles": 0, "best": 0, "hubs": 1, "show": 0}


def is_name(word):
    """Tell whether the word is one to eight small letters."""
    return 1 <= len(word) <= MOST_LETTERS and all([sign in LETTERS for sign in word])


def is_row(words):
    """Tell whether the words make a row."""
    if len(words) < 2 or not is_name(words[1]):
        return False
    word, name, *rest = words
    if word == "web":
        # A blank stands behind the name even where the text is empty, and makes an empty word then.
        return len(rest) > 0
    return NUMBERS.get(word) == len(rest) and None not in [number_of(each) for each in rest]


def row_words(row):
    """Tell the words of a row; refuse what is none."""
    if not isinstance(row, str):
        raise NoRow("this is no text")
    words = row.split(" ")
    if not is_row(words):
        raise NoRow("this is no row")
    return words


def show_places(wide, places):
    """Tell the writing of how wide places see, and of the places."""
    return " ".join([str(number) for number in [wide] + places])


def tell_far(web, numbers):
    """Tell the answer to a far row."""
    a, b = numbers
    far = how_far(web, a, b)
    return "none" if far is None else str(far)


def tell_farthest(web, numbers):
    """Tell the answer to a farthest row."""
    far, a, b = farthest_two(web)
    return f"{far} {a} {b}"


def tell_middles(web, numbers):
    """Tell the answer to a middles row."""
    wide, places = middles(web)
    return show_places(wide, places)


def tell_best(web, numbers):
    """Tell the answer to a best row."""
    best = best_tie(web)
    if best is None:
        return "none"
    far, tie = best
    return f"{far} {show_tie(tie)}"


def tell_hubs(web, numbers):
    """Tell the answer to a hubs row."""
    wide, places = hubs_for(web, numbers[0])
    return show_places(wide, places)


def tell_writing(web, numbers):
    """Tell the answer to a show row."""
    return show_web(web)


TELLERS = {
    "far": tell_far,
    "farthest": tell_farthest,
    "middles": tell_middles,
    "best": tell_best,
    "hubs": tell_hubs,
    "show": tell_writing,
}


class Desk:
    """Webs by names."""

    def __init__(self):
        self.webs = {}

    def say(self, row):
        """Carry out the row, and tell its answer."""
        word, name, *rest = row_words(row)
        if word == "web":
            self.webs[name] = read_web(" ".join(rest))
            return "ok"
        if name not in self.webs:
            raise NoName("no web stands by this name")
        numbers = [number_of(each) for each in rest]
        if word == "drop":
            del self.webs[name]
            return "ok"
        if word == "tie":
            self.webs[name] = with_ties(self.webs[name], [tuple(sorted(numbers))])
            return "ok"
        teller = TELLERS[word]
        return teller(self.webs[name], numbers)

    def names(self):
        """Tell the names by which webs stand, in order of letters."""
        return sorted(self.webs)
