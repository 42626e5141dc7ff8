"""Workshops: steps under names, with wishes that always hold."""

from flowpieces.errors import Broken, InUse, InvalidIndex, InvalidName, InvalidWish, NothingToUndo, UnknownName
from flowpieces.steps import check_step
from flowpieces.values import is_between
from flowpieces.wishes import is_name, is_wish, names_in, wish_holds


class Moment:
    """All that a workshop kept when a block of a trial began, and the moment of the block around it."""

    def __init__(self, steps, wanted, past, before):
        self.steps = steps
        self.wanted = wanted
        self.past = past
        self.before = before


class Trial:
    """What leads a workshop back if a block of a `with` statement ends with an exception."""

    def __init__(self, shop):
        self._shop = shop
        # One trial may have blocks within blocks: the moment of the innermost one.
        self._moment = None

    def __enter__(self):
        shop = self._shop
        self._moment = Moment(shop._steps, shop._wanted, shop._past, self._moment)
        return shop

    def __exit__(self, kind, value, trace):
        shop = self._shop
        if kind is not None:
            shop._steps = self._moment.steps
            shop._wanted = self._moment.wanted
            shop._past = self._moment.past
        self._moment = self._moment.before


class Workshop:
    """Steps under names, and wishes that hold after each change.

    What it keeps is never changed in place, but replaced: so it is led back by what was kept before.
    """

    def __init__(self):
        self._steps = {}
        self._wanted = ()
        # What was kept ahead of each change that can be taken back: pairs of steps and wishes.
        self._past = ()

    def put(self, name, step):
        """Puts a step under a name, or another one in its place."""
        if not is_name(name):
            raise InvalidName(name)
        check_step(step)
        steps = {**self._steps, name: step}
        for index, wish in enumerate(self._wanted):
            if name in names_in(wish) and not wish_holds(wish, steps):
                raise Broken(index)
        self._change(steps, self._wanted)

    def drop(self, name):
        """Takes a step away."""
        self._check_known(name)
        for index, wish in enumerate(self._wanted):
            if name in names_in(wish):
                raise InUse(index)
        self._change({other: step for other, step in self._steps.items() if other != name}, self._wanted)

    def wish(self, wish):
        """Adds a wish behind those that there are."""
        if not is_wish(wish):
            raise InvalidWish(wish)
        for name in names_in(wish):
            self._check_known(name)
        if not wish_holds(wish, self._steps):
            raise Broken(len(self._wanted))
        self._change(self._steps, self._wanted + (wish,))

    def lift(self, index):
        """Takes a wish away."""
        if not is_between(index, 0, len(self._wanted) - 1):
            raise InvalidIndex(index)
        self._change(self._steps, self._wanted[:index] + self._wanted[index + 1 :])

    def named(self, name):
        """The step under a name."""
        self._check_known(name)
        return self._steps[name]

    def undo(self):
        """Takes back the last change that is not taken back yet."""
        if self._past == ():
            raise NothingToUndo()
        self._steps, self._wanted = self._past[-1]
        self._past = self._past[:-1]

    def trial(self):
        """What leads the workshop back if the block of a `with` statement over it ends with an exception."""
        return Trial(self)

    def tried(self, action):
        """Calls a function with the workshop in a trial, and returns what it returns."""
        with self.trial() as shop:
            return action(shop)

    @property
    def names(self):
        """The names that there are, ascending."""
        return tuple(sorted(list(self._steps)))

    @property
    def wishes(self):
        """The wishes, as they were passed, in the order in which they came."""
        return self._wanted

    def __len__(self):
        return len(self._past)

    def __bool__(self):
        return True

    def __contains__(self, name):
        return is_name(name) and name in self._steps

    def _change(self, steps, wanted):
        """Keep other steps and wishes from now on, so that it can be taken back."""
        self._past = self._past + ((self._steps, self._wanted),)
        self._steps = steps
        self._wanted = wanted

    def _check_known(self, name):
        """Refuse what is no name here."""
        if name not in self:
            raise UnknownName(name)
