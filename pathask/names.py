"""Names: what knots, words of ties and marks are called by."""

LONGEST = 8
LETTERS = "abcdefghijklmnopqrstuvwxyz"


def is_name(thing):
    if not isinstance(thing, str):
        return False
    # Not islower or isalpha: those know letters beyond a to z.
    return 1 <= len(thing) <= LONGEST and all(["a" <= sign <= "z" for sign in thing])


# The number written with letters in the place of figures, so that no two numbers get the same name.
def name_of(number):
    name = LETTERS[number % len(LETTERS)]
    while number >= len(LETTERS):
        number = number // len(LETTERS)
        name = LETTERS[number % len(LETTERS)] + name
    return name
