"""Names: what knots, words of ties and marks are called by."""

LONGEST = 8


def is_name(thing):
    if not isinstance(thing, str):
        return False
    # Not islower or isalpha: those know letters beyond a to z.
    return 1 <= len(thing) <= LONGEST and all(["a" <= sign <= "z" for sign in thing])
