"""What kind of thing it is that was handed in.

The exact class is asked for, here and in the other files: a truth is an int to
isinstance, and an object of a class below list or tuple may answer len or == by
an error of its own, which is never let through.
"""


def is_whole(thing):
    """Tell of anything whether it is a whole number."""
    return type(thing) == int


def is_player(thing, n):
    """Tell of anything whether it is one of n players."""
    return is_whole(thing) and 0 <= thing < n


def is_tuple_of(thing, size):
    """Tell of anything whether it is a tuple of that many things."""
    return type(thing) == tuple and len(thing) == size
