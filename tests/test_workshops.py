"""Workshops: points 2 to 5 and 27 and flowpieces/workshops.py."""

import unittest

from flowpieces.errors import (
    Broken,
    FlowError,
    InUse,
    InvalidIndex,
    InvalidName,
    InvalidStep,
    InvalidWish,
    NothingToUndo,
    UnknownName,
)
from flowpieces.orders import order_of, step_towards
from flowpieces.parts import in_parts
from flowpieces.steps import joined, mirrored, short_form, timed, undoing
from flowpieces.workshops import Workshop
from samples import (
    HALF,
    LESS,
    NIL,
    NO_STEPS,
    ONE,
    STRANGE,
    WIDE,
    Alike,
    Hostile,
    fixed_source,
    random_step,
    with_each_place_changed,
)

LEAD, LEAP = ((0, ONE), (1, ONE)), ((0, HALF), (1, ONE), (0, HALF))
THREE = LEAD + ((2, ONE),)
SIXTHS = (HALF, (2, 3), (5, 6), LESS)
NO_NAMES = STRANGE + (
    "A", "Leap", "a b", " a", "a ", "a1", "a_", "a-b", "abcdefghijklm", "a" * 13, "a" * 4000, "a\n", "~", "[", "`", "{", "",
    0, 1, ("a",), ["a"], b"a",
)
NAMES = ("a", "z", "leap", "abcdefghijkl", "zzzzzzzzzzzz")
NO_WISHES = NO_NAMES + (
    (), ("order",), ("symmetric",), ("symmetric", "leap", 2), ("symmetric", "Leap"), ("symmetric", ""), ("symmetric", 1),
    ("symmetric", "a" * 13), ("symmetric", None), ["symmetric", "leap"], ("Symmetric", "leap"), ("smooth", "leap"),
    ("order", "leap"), ("order", "leap", 2), ("order", "leap", 2, 1, 1), ("order", "leap", 1, 1), ("order", "leap", 4, 1),
    ("order", "leap", True, 1), ("order", "leap", 2, True), ("order", "leap", 2, False), ("order", "leap", 2, -1),
    ("order", "leap", 2, 7), ("order", "leap", 3, 5), ("order", "leap", 2, "1"), ("order", "leap", 2, None),
    ("order", "leap", 2, (1,)), ("order", "Leap", 2, 1), ("order", 2, "leap", 1), ("order", "leap", 2, 10**399),
    ("forward", "leap"), ("forward", "leap", 3), ("forward", "leap", -1), ("forward", "leap", True),
    ("forward", "leap", False), ("forward", "leap", "0"), ("forward", "leap", 0, 0), ("forward", "le ap", 0),
    ("alike", "leap"), ("alike", "leap", "Lead"), ("alike", "leap", 0), ("alike", "Leap", "lead"), ("alike", "leap", None),
    ("alike", "leap", "lead", "leap"), ("alike", "leap", "a" * 13), ("alike", "leap", ""), ("alike", ("leap", "lead")),
    ("pieces", "leap"), ("pieces", "leap", -1), ("pieces", "leap", 61), ("pieces", "leap", True), ("pieces", "leap", "3"),
    ("pieces", "leap", 3, 3), ("pieces", "", 3), (b"symmetric", "leap"), (None, "leap"), (Hostile(), "leap"),
    (Alike(), "leap"), ("symmetric", Hostile()), ("order", "leap", Hostile(), Alike()), (("symmetric",), "leap"),
    ("names", "leap"), ("unlike", "leap", "lead"),
)


def state_of(shop):
    return {name: shop.named(name) for name in shop.names}, shop.wishes, len(shop)


def filled():
    shop = Workshop()
    shop.put("lead", LEAD)
    shop.put("leap", LEAP)
    shop.put("idle", ())
    return shop


class Case(unittest.TestCase):
    def check_error(self, call, error, **kept):
        with self.assertRaises(error) as caught:
            call()
        self.assertIs(type(caught.exception), error)
        for name, value in kept.items():
            self.assertIs(getattr(caught.exception, name), value)

    def check_no_change(self, shop, call, error, **kept):
        before = state_of(shop)
        self.check_error(call, error, **kept)
        self.assertEqual(state_of(shop), before)


class Names(Case):
    def test_all_that_can_be(self):
        shop = Workshop()
        for name in NAMES:
            self.assertIsNone(shop.put(name, LEAP))
            self.assertEqual(shop.named(name), LEAP)
            self.assertEqual(shop.named(name=name), LEAP)
            self.assertIs(name in shop, True)
        self.assertEqual(shop.names, tuple(sorted(NAMES)))
        for name in NAMES:
            self.assertIsNone(shop.drop(name=name))
            self.assertIs(name in shop, False)
        self.assertEqual(shop.names, ())

    def test_what_cannot_be(self):
        shop = filled()
        for name in NO_NAMES:
            self.check_no_change(shop, lambda: shop.put(name, LEAP), InvalidName, given=name)
            self.check_no_change(shop, lambda: shop.put(step=LEAP, name=name), InvalidName, given=name)
            self.check_no_change(shop, lambda: shop.put(name, None), InvalidName, given=name)
            self.assertIs(name in shop, False)

    def test_what_is_none_here(self):
        shop = filled()
        for name in NO_NAMES + ("lea", "leaps", "z", "abcdefghijkl"):
            for method in (shop.drop, shop.named):
                self.check_no_change(shop, lambda: method(name), UnknownName, given=name)
                self.check_no_change(shop, lambda: method(name=name), UnknownName, given=name)
            self.assertIs(name in shop, False)

    def test_steps(self):
        shop = filled()
        for step in NO_STEPS:
            self.check_no_change(shop, lambda: shop.put("leap", step), InvalidStep, given=step)
            self.check_no_change(shop, lambda: shop.put(name="other", step=step), InvalidStep, given=step)
        for step in ((), ((2, NIL),), ((0, WIDE),) * 60, THREE):
            shop.put(step=step, name="other")
            self.assertIs(shop.named("other"), step)

    def test_no_short_form_is_kept(self):
        shop = Workshop()
        step = ((0, HALF), (0, HALF), (1, NIL))
        shop.put("leap", step)
        self.assertEqual(shop.named("leap"), step)


class Wishes(Case):
    def check_wish(self, steps, wish, holds):
        """Whether a wish holds with these steps: as it is put, and as the steps are put behind it."""
        shop = Workshop()
        for name, step in steps.items():
            shop.put(name, step)
        if holds:
            self.assertIsNone(shop.wish(wish))
            self.assertIs(shop.wishes[0], wish)
            for name, step in steps.items():
                shop.put(name, step)
            shop.wish(wish=wish)
            self.assertEqual(shop.wishes, (wish, wish))
            self.assertEqual(len(shop), 2 * len(steps) + 2)
        else:
            self.check_no_change(shop, lambda: shop.wish(wish), Broken)
            self.check_no_change(shop, lambda: shop.wish(wish=wish), Broken)
            try:
                shop.wish(wish)
            except Broken as broken:
                self.assertEqual(broken.index, 0)

    def test_orders(self):
        source = fixed_source(161)
        straight = (((0,), ONE), ((1,), ONE))
        steps = [(), LEAD, LEAP, in_parts(LEAP, SIXTHS), random_step(source, 2, 4), step_towards(straight, 4), ((0, ONE),)]
        steps += [THREE, THREE[::-1], joined(timed(THREE, HALF), mirrored(timed(THREE, HALF))), LEAD + ((2, NIL),)]
        for step in steps:
            for letters, last in ((2, 6), (3, 4)):
                order = order_of(tuple(piece for piece in step if piece[0] < letters), letters)
                for number in range(last + 1):
                    holds = number <= order and (letters == 3 or all(letter < 2 for letter, _ in step))
                    self.check_wish({"a": step}, ("order", "a", letters, number), holds)
        shop = Workshop()
        shop.put("a", step_towards(straight, 6))
        shop.wish(("order", "a", 2, 6))
        self.assertEqual(shop.wishes, (("order", "a", 2, 6),))

    def test_symmetric_ones(self):
        for step, holds in (
            ((), True), (LEAP, True), (LEAD, False), (((0, ONE), (0, HALF)), True), (LEAP + ((1, NIL),), True),
            (((0, HALF), (1, ONE), (0, (1, 4)), (0, (1, 4))), True), (joined(LEAD, mirrored(LEAD)), True), (THREE, False),
            (((2, ONE), (0, ONE), (2, ONE)), True), (joined(LEAD, undoing(LEAD)), True),
        ):
            self.check_wish({"abcdefghijkl": step}, ("symmetric", "abcdefghijkl"), holds)

    def test_forward_ones(self):
        for step, told in (
            ((), (True, True, True)), (LEAP, (True, True, True)), (undoing(THREE), (False, False, False)),
            (((2, LESS),), (True, True, False)), (((2, LESS), (2, HALF), (1, LESS), (1, ONE)), (True, True, False)),
            (((0, LESS), (0, ONE)), (True, True, True)), (((0, LESS), (1, NIL), (0, (2, 1))), (True, True, True)),
            (((0, LESS), (1, ONE), (0, (2, 1))), (False, True, True)), (in_parts(LEAD, SIXTHS), (False, False, True)),
        ):
            for letter in range(3):
                self.check_wish({"a": step}, ("forward", "a", letter), told[letter])

    def test_alike_ones(self):
        spread = ((0, HALF), (1, NIL), (1, HALF), (1, HALF), (0, HALF))
        for first, second, holds in (
            (LEAP, spread, True), (LEAP, LEAD, False), ((), joined(LEAD, undoing(LEAD)), True), (LEAP, LEAP, True),
            ((), ((0, WIDE),), False),
        ):
            self.check_wish({"a": first, "b": second}, ("alike", "a", "b"), holds)
            self.check_wish({"a": first, "b": second}, ("alike", "b", "a"), holds)
            self.check_wish({"a": first, "b": second}, ("alike", "a", "a"), True)

    def test_pieces(self):
        for step in ((), LEAD, LEAP, LEAP + ((0, HALF),), ((0, ONE), (0, LESS)), tuple((at % 2, WIDE) for at in range(60))):
            many = len(short_form(step))
            for number in sorted({0, 1, 2, 3, many - 1 if many else 0, many, 59, 60}):
                self.check_wish({"a": step}, ("pieces", "a", number), number >= many)
        self.check_wish({"a": ((0, ONE), (1, ONE)) * 31}, ("pieces", "a", 60), False)

    def test_no_wishes(self):
        shop = filled()
        for wish in NO_WISHES:
            self.check_no_change(shop, lambda: shop.wish(wish), InvalidWish, given=wish)
            self.check_no_change(shop, lambda: shop.wish(wish=wish), InvalidWish, given=wish)
        for strange in STRANGE:
            for right in (("symmetric", "leap"), ("order", "leap", 2, 1), ("alike", "leap", "lead"), ("pieces", "leap", 3)):
                for wish in with_each_place_changed(right, strange):
                    self.check_no_change(shop, lambda: shop.wish(wish), InvalidWish, given=wish)

    def test_unknown_names(self):
        shop = filled()
        for wish, given in (
            (("symmetric", "nobody"), "nobody"), (("order", "nobody", 2, 0), "nobody"), (("pieces", "z", 0), "z"),
            (("alike", "nobody", "z"), "nobody"), (("alike", "leap", "z"), "z"), (("alike", "z", "leap"), "z"),
            (("alike", "z", "z"), "z"), (("forward", "nobody", 2), "nobody"),
        ):
            self.check_no_change(shop, lambda: shop.wish(wish), UnknownName)
            try:
                shop.wish(wish=wish)
            except UnknownName as unknown:
                self.assertEqual(unknown.given, given)

    def test_the_first_wish_that_would_not_hold(self):
        shop = filled()
        for wish in (
            ("symmetric", "leap"), ("order", "leap", 2, 1), ("pieces", "lead", 2), ("alike", "leap", "leap"),
            ("pieces", "leap", 3), ("symmetric", "leap"),
        ):
            shop.wish(wish)
        for step, index in ((LEAD, 0), (((0, HALF), (1, HALF), (0, HALF)), 1), (joined(LEAP, LEAP), 1)):
            self.check_no_change(shop, lambda: shop.put("leap", step), Broken, index=index)
            self.check_no_change(shop, lambda: shop.put(step=step, name="leap"), Broken, index=index)
        long = in_parts(LEAP, (HALF, HALF))
        self.check_no_change(shop, lambda: shop.put("leap", long), Broken, index=4)
        self.check_no_change(shop, lambda: shop.put("lead", LEAP), Broken, index=2)
        self.check_no_change(shop, lambda: shop.wish(("symmetric", "lead")), Broken, index=6)
        self.check_no_change(shop, lambda: shop.drop("leap"), InUse, index=0)
        self.check_no_change(shop, lambda: shop.drop(name="lead"), InUse, index=2)
        shop.put("leap", ((1, HALF), (0, ONE), (1, HALF)))
        shop.drop("idle")

    def test_alike_names_both(self):
        shop = filled()
        shop.put("other", LEAP)
        shop.wish(("alike", "leap", "other"))
        self.check_no_change(shop, lambda: shop.drop("other"), InUse, index=0)
        self.check_no_change(shop, lambda: shop.drop("leap"), InUse, index=0)
        self.check_no_change(shop, lambda: shop.put("other", LEAD), Broken, index=0)
        self.check_no_change(shop, lambda: shop.put("leap", LEAD), Broken, index=0)
        shop.put("other", LEAP + ((1, NIL),))
        shop.lift(0)
        shop.drop("other")

    def test_lifting(self):
        shop = filled()
        told = (("symmetric", "leap"), ("pieces", "leap", 3), ("symmetric", "leap"))
        for wish in told:
            shop.wish(wish)
        for index in STRANGE + (-1, -3, 3, 10**399, -(10**399), "0", (0,), [0]):
            self.check_no_change(shop, lambda: shop.lift(index), InvalidIndex, given=index)
            self.check_no_change(shop, lambda: shop.lift(index=index), InvalidIndex, given=index)
        self.assertIsNone(shop.lift(1))
        self.assertEqual(shop.wishes, (told[0], told[2]))
        shop.lift(index=0)
        self.assertEqual(shop.wishes, told[2:])
        self.check_no_change(shop, lambda: shop.put("leap", LEAD), Broken, index=0)
        shop.lift(0)
        self.check_no_change(shop, lambda: shop.lift(0), InvalidIndex, given=0)
        shop.put("leap", LEAD)
        shop.drop("leap")
        self.assertEqual(len(shop), 11)


class Undoing(Case):
    def test_all_changes(self):
        shop = Workshop()
        states = [state_of(shop)]
        for change in (
            lambda: shop.put("leap", LEAP), lambda: shop.put("leap", LEAP), lambda: shop.put("lead", LEAD),
            lambda: shop.wish(("symmetric", "leap")), lambda: shop.wish(("symmetric", "leap")), lambda: shop.lift(0),
            lambda: shop.put("leap", ()), lambda: shop.drop("lead"), lambda: shop.lift(0), lambda: shop.drop("leap"),
        ):
            self.assertIsNone(change())
            states.append(state_of(shop))
            self.assertEqual(len(shop), len(states) - 1)
        for state in reversed(states[:-1]):
            self.assertIsNone(shop.undo())
            self.assertEqual(state_of(shop), state)
        self.check_no_change(shop, shop.undo, NothingToUndo)
        self.assertEqual((len(shop), shop.names, shop.wishes), (0, (), ()))

    def test_undoing_is_no_change_itself(self):
        shop = filled()
        shop.undo()
        shop.put("other", LEAD)
        shop.undo()
        shop.undo()
        self.assertEqual((shop.names, len(shop)), (("lead",), 1))
        shop.undo()
        self.check_no_change(shop, shop.undo, NothingToUndo)

    def test_wishes_hold_again_after_undoing(self):
        shop = filled()
        shop.wish(("symmetric", "leap"))
        shop.lift(0)
        shop.put("leap", LEAD)
        shop.undo()
        shop.undo()
        self.check_no_change(shop, lambda: shop.put("leap", LEAD), Broken, index=0)

    def test_errors_are_no_changes(self):
        shop = filled()
        for call in (lambda: shop.put("", ()), lambda: shop.drop("z"), lambda: shop.lift(0), lambda: shop.wish(())):
            with self.assertRaises(FlowError):
                call()
        self.assertEqual(len(shop), 3)
        shop.undo()
        self.assertEqual(shop.names, ("lead", "leap"))


class Away(BaseException):
    """An exception that is no error."""


class Trials(Case):
    def test_a_call_alone_changes_nothing(self):
        shop = filled()
        before = state_of(shop)
        trial = shop.trial()
        self.assertEqual(state_of(shop), before)
        self.assertTrue(trial)
        self.assertIsNot(shop.trial(), trial)
        self.assertNotEqual(shop.trial(), trial)
        self.assertEqual(trial, trial)

    def test_what_ends_well_stays(self):
        shop = filled()
        with shop.trial() as held:
            self.assertIs(held, shop)
            held.put("other", LEAD)
            shop.wish(("symmetric", "leap"))
        self.assertEqual(len(shop), 5)
        self.assertEqual(shop.wishes, (("symmetric", "leap"),))
        shop.undo()
        self.assertEqual(shop.wishes, ())
        self.assertIn("other", shop)

    def test_exceptions_of_all_classes(self):
        for error in (ValueError, KeyError, ZeroDivisionError, KeyboardInterrupt, SystemExit, Away, GeneratorExit, NothingToUndo):
            shop = filled()
            shop.wish(("symmetric", "leap"))
            before = state_of(shop)
            thrown = error()
            with self.assertRaises(error) as caught:
                with shop.trial():
                    shop.put("other", LEAD)
                    shop.lift(0)
                    shop.put("leap", LEAD)
                    shop.drop("idle")
                    raise thrown
            self.assertIs(caught.exception, thrown)
            self.assertEqual(state_of(shop), before)
            self.check_no_change(shop, lambda: shop.put("leap", LEAD), Broken, index=0)
            shop.undo()
            shop.undo()
            self.assertEqual(shop.names, ("lead", "leap"))

    def test_errors_of_the_workshop_itself(self):
        shop = filled()
        before = state_of(shop)
        with self.assertRaises(UnknownName):
            with shop.trial():
                shop.drop("leap")
                shop.named("leap")
        self.assertEqual(state_of(shop), before)
        # One that is caught within the block ends nothing.
        with shop.trial():
            shop.drop("leap")
            with self.assertRaises(UnknownName):
                shop.named("leap")
        self.assertEqual(shop.names, ("idle", "lead"))

    def test_undoing_what_was_changed_before(self):
        shop = filled()
        before = state_of(shop)
        with self.assertRaises(Away):
            with shop.trial():
                shop.undo()
                shop.undo()
                self.assertEqual(shop.names, ("lead",))
                shop.put("other", LEAP)
                raise Away()
        self.assertEqual(state_of(shop), before)
        with shop.trial():
            shop.undo()
            shop.undo()
            shop.undo()
            self.check_no_change(shop, shop.undo, NothingToUndo)
        self.assertEqual(state_of(shop), ({}, (), 0))

    def test_trials_within_trials(self):
        for outer_fails in (True, False):
            shop = filled()
            before = state_of(shop)
            try:
                with shop.trial():
                    shop.put("a", LEAD)
                    middle = state_of(shop)
                    with self.assertRaises(KeyError):
                        with shop.trial():
                            shop.put("b", LEAD)
                            with shop.trial():
                                shop.put("c", LEAD)
                            self.assertIn("c", shop)
                            raise KeyError("b")
                    self.assertEqual(state_of(shop), middle)
                    with shop.trial():
                        shop.put("d", LEAD)
                    if outer_fails:
                        raise Away()
            except Away:
                self.assertEqual(state_of(shop), before)
            else:
                self.assertEqual(shop.names, ("a", "d", "idle", "lead", "leap"))
                self.assertEqual(len(shop), 5)

    def test_one_value_for_several_statements(self):
        shop = filled()
        trial = shop.trial()
        shop.put("late", LEAD)
        before = state_of(shop)
        # One behind the other: each begins where its block does.
        with self.assertRaises(Away):
            with trial:
                shop.put("a", LEAD)
                raise Away()
        self.assertEqual(state_of(shop), before)
        with trial as held:
            held.put("a", LEAD)
        after = state_of(shop)
        with self.assertRaises(Away):
            with trial:
                shop.undo()
                shop.undo()
                raise Away()
        self.assertEqual(state_of(shop), after)
        # One within the other.
        with trial:
            shop.put("b", LEAD)
            inner = state_of(shop)
            with self.assertRaises(KeyError):
                with trial:
                    shop.put("c", LEAD)
                    with trial:
                        shop.put("d", LEAD)
                    raise KeyError("c")
            self.assertEqual(state_of(shop), inner)
        self.assertEqual(state_of(shop), inner)
        with self.assertRaises(Away):
            with trial:
                shop.drop("b")
                with trial:
                    shop.drop("a")
                shop.drop("late")
                raise Away()
        self.assertEqual(state_of(shop), inner)

    def test_tried(self):
        shop = filled()
        before = state_of(shop)
        answer = object()

        def well(held):
            self.assertIs(held, shop)
            held.put("other", LEAD)
            return answer

        def badly(held):
            held.drop("leap")
            held.undo()
            held.undo()
            raise Away()

        with self.assertRaises(Away):
            shop.tried(badly)
        self.assertEqual(state_of(shop), before)
        self.assertIs(shop.tried(well), answer)
        self.assertIs(shop.tried(action=well), answer)
        self.assertEqual(len(shop), 5)
        self.assertIsNone(shop.tried(lambda held: held.undo()))
        self.assertEqual(shop.tried(lambda held: held.tried(lambda other: len(other))), 4)

    def test_other_workshops_go_on(self):
        shop, other = filled(), filled()
        with self.assertRaises(Away):
            with shop.trial():
                other.drop("leap")
                shop.drop("lead")
                raise Away()
        self.assertEqual((shop.names, other.names), (("idle", "lead", "leap"), ("idle", "lead")))


class Workshops(Case):
    def test_truth_equality_and_length(self):
        shop, other = Workshop(), Workshop()
        self.assertIs(bool(shop), True)
        self.assertEqual(len(shop), 0)
        self.assertIs(shop == shop, True)
        self.assertIs(shop != shop, False)
        for value in (other, None, 0, (), {}, "shop", Workshop):
            self.assertIs(shop == value, False)
            self.assertIs(shop != value, True)

    def test_what_was_told_stays(self):
        shop = filled()
        names, wishes = shop.names, shop.wishes
        shop.put("other", LEAD)
        shop.wish(("symmetric", "leap"))
        self.assertEqual((names, wishes), (("idle", "lead", "leap"), ()))

    def test_in_for_any_value(self):
        shop = filled()
        for value in STRANGE + NO_WISHES:
            self.assertIs(value in shop, False)
            self.assertIs(value not in shop, True)

    def test_many_changes_beside_a_plain_model(self):
        source = fixed_source(162)
        steps = (LEAD, LEAP, (), THREE, ((0, HALF), (1, NIL), (1, ONE), (0, HALF)), undoing(LEAP))
        wishes = (("symmetric", "a"), ("order", "a", 2, 1), ("alike", "a", "b"), ("pieces", "b", 3), ("forward", "c", 0))
        shop, past = Workshop(), []
        for _ in range(400):
            before = state_of(shop)
            change = source.choice((
                lambda: shop.put(source.choice("abc"), source.choice(steps)), lambda: shop.drop(source.choice("abcd")),
                lambda: shop.wish(source.choice(wishes)), lambda: shop.lift(source.randint(0, 2)),
            ))
            if source.random() < 0.3:
                if past:
                    shop.undo()
                    self.assertEqual(state_of(shop), past.pop())
                continue
            try:
                change()
            except FlowError:
                self.assertEqual(state_of(shop), before)
            else:
                past.append(before)
                self.assertEqual(len(shop), len(past))
            self.check_wishes_hold(shop)

    def check_wishes_hold(self, shop):
        other = Workshop()
        for name in shop.names:
            other.put(name, shop.named(name))
        for wish in shop.wishes:
            other.wish(wish)


if __name__ == "__main__":
    unittest.main()
