"""What sort of thing a thing is, asked of any thing."""


def is_whole(thing):
    # To Python a truth is an int too.
    return isinstance(thing, int) and not isinstance(thing, bool)


def is_row(thing, many):
    return isinstance(thing, tuple) and len(thing) == many
