"""What kind of thing was handed in, asked of anything [0.3]."""


# True and False are ints to Python, but no whole numbers here [0.2].
def is_whole(thing):
    return isinstance(thing, int) and not isinstance(thing, bool)


def whole_within(thing, least, most):
    return is_whole(thing) and least <= thing <= most


def is_row(thing):
    return isinstance(thing, (list, tuple))


# Each is above the one ahead of it, so no two are alike.
def is_rising(things):
    return all([one < other for one, other in zip(things, things[1:])])
