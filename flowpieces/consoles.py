"""Consoles: workshops led by lines of text."""

from flowpieces.errors import InvalidPhrase, NotAWorkshop
from flowpieces.orders import step_order_and_miss
from flowpieces.steps import step_has_two, step_short
from flowpieces.values import is_fraction
from flowpieces.wishes import is_name
from flowpieces.workshops import Workshop

# Python itself does not read much longer ones.
MOST_FIGURES = 4000
# How many names follow the word of a line, without those of lines that put a step.
NAMES_BEHIND = {"drop": 1, "undo": 0, "show": 1, "short": 1, "order": 1, "alike": 2, "names": 0}


def step_text(step):
    """The text of a step."""
    if step == ():
        return "-"
    return " ".join([f"{letter}:{number[0]}/{number[1]}" for letter, number in step])


def number_told(text):
    """The whole number of a text, just as it is written; None for another text."""
    figures = text[1:] if text[:1] == "-" else text
    if not figures.isascii() or not figures.isdigit() or len(figures) > MOST_FIGURES:
        return None
    if figures[0] == "0" and text != "0":
        return None
    return int(text)


def piece_told(text):
    """The piece of a text; None for another text."""
    letter, sign, behind = text.partition(":")
    upper, line, lower = behind.partition("/")
    if letter not in ("0", "1", "2") or sign == "" or line == "":
        return None
    number = (number_told(upper), number_told(lower))
    return (int(letter), number) if is_fraction(number) else None


def step_told(words):
    """The step of the texts of its pieces; None for other texts."""
    if words == ["-"]:
        return ()
    pieces = [piece_told(word) for word in words]
    return None if words == [] or None in pieces else tuple(pieces)


def line_told(line):
    """The word of a line, its names, and its step, if it puts one; None for what is no line."""
    if type(line) != str:
        return None
    word, *rest = line.split(" ")
    if word == "step":
        return put_told(rest)
    if NAMES_BEHIND.get(word, -1) != len(rest) or not all([is_name(name) for name in rest]):
        return None
    return word, rest, None


def put_told(words):
    """As line_told, for what stands behind `step`."""
    if words == [] or words[0][-1:] != ":" or not is_name(words[0][:-1]):
        return None
    step = step_told(words[1:])
    return None if step is None else ("step", [words[0][:-1]], step)


class Console:
    """A workshop that is led by lines of text."""

    def __init__(self, shop):
        if type(shop) != Workshop:
            raise NotAWorkshop(shop)
        self._shop = shop

    def say(self, line):
        """Does what a line says, and tells the answer, a text."""
        told = line_told(line)
        if told is None:
            raise InvalidPhrase(line)
        word, names, step = told
        if word == "names":
            return " ".join(self._shop.names) if self._shop.names != () else "none"
        if word not in ("step", "drop", "undo"):
            return self._answer(word, [self._shop.named(name) for name in names])
        if word == "step":
            self._shop.put(names[0], step)
        elif word == "drop":
            self._shop.drop(names[0])
        else:
            self._shop.undo()
        return "done"

    def _answer(self, word, steps):
        """What is told of steps."""
        step = steps[0]
        if word == "show":
            return step_text(step)
        if word == "short":
            return step_text(step_short(step))
        if word == "order":
            return str(step_order_and_miss(step, 3 if step_has_two(step) else 2)[0])
        return "yes" if step_short(step) == step_short(steps[1]) else "no"
