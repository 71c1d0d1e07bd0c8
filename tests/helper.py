"""Things of all kinds, for the tests that hand in whatever there is."""

from haulbell.errors import HaulError, NoStore

BIG = 10 ** 60 - 1


def no_wholes():
    """Things that are no whole numbers: truths, texts, and all kinds of others."""
    return [
        True, False, None, "", "0", "1", "-1", "here", "open", [], [0], [1, 2], (), (1,), (0, 1),
        {}, {0: 1}, {"here": 1}, {1, 2}, b"here", len, int, HaulError, HaulError("words"), NoStore(3),
        ["here"], ("open",), {"open": "open"},
    ]


def no_texts():
    """Things that are no texts."""
    return [thing for thing in no_wholes() if not isinstance(thing, str)] + [0, 1, -1, BIG, -BIG]


def refused(test, error_class, call, *things):
    """Asks that the call is refused with just this class, and hands back the refusal."""
    with test.assertRaises(HaulError) as caught:
        call(*things)
    test.assertIs(type(caught.exception), error_class)
    return caught.exception
