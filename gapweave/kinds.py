"""Kinds of things, for where a thing of any kind may be handed in."""


def is_whole(thing):
    return isinstance(thing, int) and not isinstance(thing, bool)


def is_pair(thing):
    return isinstance(thing, tuple) and len(thing) == 2
