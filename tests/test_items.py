import unittest

from haulbell.deeds import Deed, Set
from haulbell.hops import Hop
from haulbell.items import Do, Times, When
from haulbell.longs import Copy, Fill


def the_very(test, told, things):
    """Asks that a list holds these very things, in order."""
    test.assertIs(type(told), list)
    test.assertEqual(len(told), len(things))
    for one, other in zip(told, things):
        test.assertIs(one, other)


class Told(unittest.TestCase):
    def test_do(self):
        for name in ("a", "z", "haulbell"):
            self.assertEqual(Do(name).told(), ("do", name))

    def test_times(self):
        for many in range(10):
            block = [Copy(), Do("a"), Times(2, []), When(0, [Fill()])]
            told = Times(many, block).told()
            self.assertIs(type(told), tuple)
            self.assertEqual((len(told),) + told[:2], (3, "times", many))
            the_very(self, told[2], block)
        self.assertEqual(Times(0, []).told(), ("times", 0, []))

    def test_when(self):
        for on in (0, 1):
            block, other = [Copy(), Do("a")], [Hop(2), Times(2, []), When(0, [Fill()])]
            told = When(on, block, other).told()
            self.assertIs(type(told), tuple)
            self.assertEqual((len(told),) + told[:2], (4, "when", on))
            the_very(self, told[2], block)
            the_very(self, told[3], other)

    def test_no_other_block(self):
        self.assertEqual(When(1, []).told(), ("when", 1, [], []))
        self.assertEqual(When(1, [], None).told(), ("when", 1, [], []))
        self.assertEqual(When(0, [], []).told(), ("when", 0, [], []))

    def test_the_longest_blocks(self):
        block, other = [Copy() for place in range(24)], [Fill() for place in range(24)]
        the_very(self, Times(9, block).told()[2], block)
        the_very(self, When(1, block, other).told()[3], other)

    def test_none_of_them_is_a_deed(self):
        for item in (Do("a"), Times(2, [Copy()]), When(1, [Copy()])):
            self.assertNotIsInstance(item, Deed)
        for kind in (Do, Times, When):
            self.assertFalse(issubclass(kind, Deed))


class Copies(unittest.TestCase):
    def test_lists_handed_in_are_free_of_the_item(self):
        deeds = [Copy(), Fill(), Set("left", 1)]
        block, other = list(deeds), list(deeds)
        times, when = Times(3, block), When(1, block, other)
        block.clear()
        other[0] = Do("a")
        other.append(Copy())
        the_very(self, times.told()[2], deeds)
        the_very(self, when.told()[2], deeds)
        the_very(self, when.told()[3], deeds)

    def test_one_list_for_both_blocks(self):
        block = [Copy()]
        when = When(1, block, block)
        when.told()[2].clear()
        self.assertEqual([len(part) for part in when.told()[2:]], [1, 1])
        self.assertEqual(len(block), 1)

    def test_lists_told_are_new_ones(self):
        deeds = [Copy(), Fill()]
        times, when, alone = Times(3, deeds), When(1, deeds, deeds), When(1, deeds)
        for told in (times.told()[2], when.told()[2], when.told()[3], alone.told()[3]):
            told.append(Copy())
            told[0] = None
        the_very(self, times.told()[2], deeds)
        the_very(self, when.told()[2], deeds)
        the_very(self, when.told()[3], deeds)
        self.assertEqual(alone.told()[3], [])
        self.assertEqual(len(deeds), 2)

    def test_one_item_in_several_blocks(self):
        item = Times(2, [Copy()])
        one, other = Times(1, [item, item]), When(0, [item], [item])
        self.assertIs(one.told()[2][1], item)
        self.assertIs(other.told()[2][0], item)
        self.assertIs(other.told()[3][0], item)


if __name__ == "__main__":
    unittest.main()
