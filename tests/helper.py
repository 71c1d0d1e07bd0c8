"""What several tests need: the boxes with what they hold, and things of all kinds."""

from haulbell.errors import HaulError, NoStore

BIG = 10 ** 60 - 1
NAMES = ["here", "there", "left", "way", "sign", "met"]
FITTING = {
    "here": [-10 ** 9, -1, 0, 1, 10 ** 9],
    "there": [-10 ** 9, -1, 0, 1, 10 ** 9],
    "left": [0, 1, 10 ** 9 - 1, 10 ** 9],
    "way": [-1, 1],
    "sign": [0, 1, 10 ** 9 - 1, 10 ** 9],
    "met": [0, 1],
}
BEYOND = {
    "here": [-10 ** 9 - 1, 10 ** 9 + 1],
    "there": [-10 ** 9 - 1, 10 ** 9 + 1],
    "left": [-1, 10 ** 9 + 1],
    "way": [-2, 0, 2, 10 ** 9],
    "sign": [-1, 10 ** 9 + 1],
    "met": [-1, 2, 10 ** 9],
}


def no_wholes():
    """Things that are no whole numbers: truths, texts, and all kinds of others."""
    return [
        True, False, None, "", "0", "1", "-1", "here", "open", [], [0], [1, 2], (), (1,), (0, 1),
        {}, {0: 1}, {"here": 1}, {1, 2}, b"here", len, int, HaulError, HaulError("words"), NoStore(3),
        ["here"], ("open",), {"open": "open"},
    ]


def no_texts():
    """Things that are no texts."""
    return [thing for thing in no_wholes() if not isinstance(thing, str)] + [0, 1, -1, BIG, -BIG]


def refused(test, error_class, call, *things):
    """Asks that the call is refused with just this class, and hands back the refusal."""
    with test.assertRaises(HaulError) as caught:
        call(*things)
    test.assertIs(type(caught.exception), error_class)
    return caught.exception
