"""Consoles: points 3 to 5 and 27 and flowpieces/consoles.py."""

import unittest

from flowpieces.consoles import Console
from flowpieces.errors import Broken, InUse, InvalidPhrase, NotAWorkshop, NothingToUndo, UnknownName
from flowpieces.steps import short_form
from flowpieces.workshops import Workshop
from samples import HALF, LESS, NIL, ONE, STRANGE, WIDE, fixed_source, random_step

LEAD, LEAP = ((0, ONE), (1, ONE)), ((0, HALF), (1, ONE), (0, HALF))
NO_LINES = STRANGE + (
    "", " ", "-", "step", "step leap", "step leap:", "step leap: ", "step leap:-", "step leap :-", "step leap : -", "step: -",
    "step : -", "step leap: --", "step leap: - -", "step leap: - 0:1/1", "step leap: 0:1/1 -", "step leap: 0:1/1  1:1/1",
    "step  leap: 0:1/1", " step leap: 0:1/1", "step leap: 0:1/1 ", "step leap:  0:1/1", "step leap 0:1/1", "Step leap: 0:1/1",
    "step Leap: 0:1/1", "step leap1: -", "step le ap: -", "step abcdefghijklm: -", "step leap: 3:1/1", "step leap: -1:1/1",
    "step leap: 00:1/1", "step leap: :1/1", "step leap: 0:1", "step leap: 0:1/", "step leap: 0:/1", "step leap: 0 1/1",
    "step leap: 0:2/2", "step leap: 0:2/4", "step leap: 0:0/2", "step leap: 0:1/0", "step leap: 0:0/0", "step leap: 0:1/-1",
    "step leap: 0:-1/-1", "step leap: 0:+1/1", "step leap: 0:01/1", "step leap: 0:1/01", "step leap: 0:-0/1", "step leap: 0:--1/1",
    "step leap: 0:-/1", "step leap: 0:00/1", "step leap: 0:1_0/1", "step leap: 0:1.0/1", "step leap: 0:1/1/1", "step leap: 0::1/1",
    "step leap: 0:1/1,1:1/1", "step leap: (0, (1, 1))", "step leap: 0:1 /1", "step leap: 0: 1/1", "step leap: a:1/1",
    "step leap: 0:a/1", "step leap: 0:1/b", "step leap: 0x1:1/1", "step leap: 0:1e3/1", "step leap: 1/1:0", "step leap:: 0:1/1",
    "step leap: 0:-01/2", "step leap: 0:10/20", "step leap: 0:1/1:", "step leap:0:1/1", "steps leap: -",
    "drop", "drop ", "drop leap lead", "drop Leap", "drop  leap", "drop leap ", " drop leap", "drop leap:", "drop -", "Drop leap",
    "undo ", " undo", "undo leap", "undo -", "UNDO", "undo:", "show", "show ", "show leap lead", "show Leap", "show leap ",
    "show  leap", "show leap:", "short", "short leap lead", "short leap ", "short 1", "order", "order leap 2", "order leap ",
    "order leap lead", "order LEAP", "alike", "alike leap", "alike leap lead leap", "alike leap  lead", "alike leap, lead",
    "alike leap lead ", "alike  leap lead", "alike leap Lead", "alike Leap lead", "alike leap abcdefghijklm", "names ", " names",
    "names leap", "Names", "names:", "none", "help", "put leap", "wish leap", "lift 0", "trial", "leap", "show abcdefghijklm",
    b"names", ("names",), ["names"], "names names", "unlike leap lead",
)


def filled():
    shop = Workshop()
    shop.put("lead", LEAD)
    shop.put("leap", LEAP)
    return shop, Console(shop)


def text_of(step):
    return " ".join(f"{letter}:{upper}/{lower}" for letter, (upper, lower) in step) or "-"


class Examples(unittest.TestCase):
    def test_them(self):
        shop = Workshop()
        console = Console(shop)
        told = [
            console.say(line) for line in (
                "step leap: 0:1/2 1:1/1 0:1/2", "step lead: 0:1/1 1:1/1", "order leap", "alike leap lead", "names", "show lead",
                "step idle: -", "short idle",
            )
        ]
        self.assertEqual(told, ["done", "done", "2", "no", "lead leap", "0:1/1 1:1/1", "done", "-"])
        self.assertIsNone(shop.wish(("order", "leap", 2, 2)))
        self.assertIsNone(shop.wish(("symmetric", "leap")))
        self.assertEqual((len(shop), shop.named("idle")), (5, ()))
        with self.assertRaises(Broken) as caught:
            console.say("step leap: 0:1/1 1:1/1")
        self.assertEqual(caught.exception.index, 0)
        with self.assertRaises(InvalidPhrase) as caught:
            console.say("step leap: 0:2/2")
        self.assertEqual(caught.exception.given, "step leap: 0:2/2")


class Consoles(unittest.TestCase):
    def test_for_a_workshop_alone(self):
        for value in STRANGE + (Workshop, (Workshop(),), "shop", Console(Workshop()), Workshop().trial()):
            for call in (lambda: Console(value), lambda: Console(shop=value)):
                with self.assertRaises(NotAWorkshop) as caught:
                    call()
                self.assertIs(caught.exception.given, value)
        shop = Workshop()
        first, second = Console(shop), Console(shop=shop)
        self.assertTrue(first)
        self.assertIs(first == second, False)
        self.assertIs(first == first, True)
        self.assertIs(first != second, True)
        self.assertEqual(first.say("step a: 2:1/1"), "done")
        self.assertEqual(second.say(line="show a"), "2:1/1")

    def test_steps(self):
        source = fixed_source(171)
        shop, console = filled()
        steps = [random_step(source, 3, pieces) for pieces in (0, 1, 2, 7, 60)]
        steps += [((0, NIL),), ((2, LESS), (2, LESS)), ((1, WIDE),), ((0, (-(10**399), 10**399 + 1)),) * 4]
        for step in steps:
            self.assertEqual(console.say(f"step other: {text_of(step)}"), "done")
            self.assertEqual(shop.named("other"), step)
            self.assertEqual(console.say("show other"), text_of(step))
            self.assertEqual(console.say("short other"), text_of(short_form(step)))
            self.assertEqual(console.say(line="show other"), text_of(step))
        self.assertEqual(len(shop), 2 + len(steps))
        self.assertEqual(console.say("step a: -"), "done")
        self.assertEqual(console.say("step abcdefghijkl: 0:0/1"), "done")
        self.assertEqual(console.say("names"), "a abcdefghijkl lead leap other")

    def test_dropping_and_undoing(self):
        shop, console = filled()
        self.assertEqual(console.say("drop lead"), "done")
        self.assertEqual(console.say("names"), "leap")
        self.assertEqual(console.say("undo"), "done")
        self.assertEqual(console.say("names"), "lead leap")
        self.assertEqual([console.say("undo"), console.say("undo")], ["done", "done"])
        self.assertEqual(console.say("names"), "none")
        with self.assertRaises(NothingToUndo):
            console.say("undo")
        self.assertEqual(len(shop), 0)

    def test_orders(self):
        shop, console = filled()
        for text, order in (
            ("-", "0"), ("0:1/1 1:1/1", "1"), ("0:1/2 1:1/1 0:1/2", "2"), ("0:1/1", "0"), ("0:1/1 1:1/1 2:1/1", "1"),
            # With the letter 2 as it was put it is asked for three letters, whatever the short form has.
            ("0:1/2 1:1/1 0:1/2 2:0/1", "0"), ("0:1/2 1:1/2 2:1/1 1:1/2 0:1/2", "2"), ("2:1/1 2:-1/1", "0"),
        ):
            console.say(f"step other: {text}")
            self.assertEqual(console.say("order other"), order)

    def test_likeness(self):
        shop, console = filled()
        console.say("step other: 0:1/2 1:1/2 2:0/1 1:1/2 0:1/2")
        self.assertEqual(console.say("alike leap other"), "yes")
        self.assertEqual(console.say("alike other leap"), "yes")
        self.assertEqual(console.say("alike leap leap"), "yes")
        self.assertEqual(console.say("alike leap lead"), "no")

    def test_unknown_names(self):
        shop, console = filled()
        for line, given in (
            ("drop nobody", "nobody"), ("show nobody", "nobody"), ("short nobody", "nobody"), ("order nobody", "nobody"),
            ("alike nobody z", "nobody"), ("alike leap z", "z"), ("alike z leap", "z"), ("drop names", "names"),
        ):
            with self.assertRaises(UnknownName) as caught:
                console.say(line)
            self.assertEqual(caught.exception.given, given)
        self.assertEqual((len(shop), shop.names), (2, ("lead", "leap")))
        # Words of lines can be names, too.
        for name in ("step", "undo", "names", "none", "order"):
            self.assertEqual(console.say(f"step {name}: 0:1/1"), "done")
            self.assertEqual(console.say(f"show {name}"), "0:1/1")

    def test_errors_of_the_workshop(self):
        shop, console = filled()
        shop.wish(("pieces", "lead", 2))
        shop.wish(("symmetric", "leap"))
        with self.assertRaises(Broken) as caught:
            console.say("step leap: 0:1/1 1:1/1")
        self.assertEqual(caught.exception.index, 1)
        with self.assertRaises(InUse) as caught:
            console.say("drop lead")
        self.assertEqual(caught.exception.index, 0)
        self.assertEqual((len(shop), shop.named("leap")), (4, LEAP))

    def test_lines_that_are_none(self):
        shop, console = filled()
        shop.wish(("symmetric", "leap"))
        empty = Console(Workshop())
        for line in NO_LINES:
            for held in (console, empty):
                for call in (lambda: held.say(line), lambda: held.say(line=line)):
                    with self.assertRaises(InvalidPhrase) as caught:
                        call()
                    self.assertIs(caught.exception.given, line)
        self.assertEqual((len(shop), shop.names, shop.named("leap")), (3, ("lead", "leap"), LEAP))

    def test_what_is_no_line_is_told_ahead_of_all_else(self):
        console = Console(Workshop())
        for line in ("show nobody else", "alike nobody Else", "drop nobody ", "undo undo", "step a: 0:1/1 0:2/2"):
            with self.assertRaises(InvalidPhrase):
                console.say(line)

    def test_the_longest_numbers(self):
        shop, console = filled()
        long = f"0:{10**399 + 1}/{10**398}"
        self.assertEqual(console.say(f"step a: {long} 1:-{10**3990}/7"), "done")
        self.assertEqual(shop.named("a"), ((0, (10**399 + 1, 10**398)), (1, (-(10**3990), 7))))
        self.assertEqual(console.say("show a"), f"{long} 1:-{10**3990}/7")

    def test_within_a_trial(self):
        shop, console = filled()
        with self.assertRaises(UnknownName):
            with shop.trial():
                console.say("step other: -")
                console.say("drop leap")
                console.say("undo")
                console.say("undo")
                console.say("undo")
                console.say("drop leap")
        self.assertEqual((console.say("names"), len(shop)), ("lead leap", 2))


if __name__ == "__main__":
    unittest.main()
