"""What a whole number is, and what a content is."""

BOUND = 1000000000


def is_whole(thing):
    # Python counts True and False among the ints; here they are truths alone.
    return isinstance(thing, int) and not isinstance(thing, bool)


def is_content(thing):
    return is_whole(thing) and 0 <= thing <= BOUND
