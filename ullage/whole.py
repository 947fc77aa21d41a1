"""What counts as a whole number, for every place where anything may be handed in."""


def is_whole(thing):
    # Python takes a truth for an int; here it is no number.
    return isinstance(thing, int) and not isinstance(thing, bool)


def is_between(thing, least, most):
    return is_whole(thing) and least <= thing <= most
