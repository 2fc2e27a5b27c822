import random
import unittest
from itertools import combinations

from sealedalike.leastsets import least_sets


def all_least(members, does):
    """The least sets, found by looking at all sets from the smallest ones on."""
    found = []
    for many in range(len(members) + 1):
        for some in combinations(members, many):
            if not any(set(least) <= set(some) for least in found) and does(some):
                found.append(some)
    return tuple(sorted(found))


class Asked:
    """What is asked of the sets of which one of some sets is a part."""

    def __init__(self, doing):
        self.doing = doing
        self.times = 0

    def does(self, some):
        return any(set(part) <= set(some) for part in self.doing)

    def done_at(self, some):
        self.times += 1
        return next((many for many in range(len(some) + 1) if self.does(some[:many])), None)


class LeastSets(unittest.TestCase):
    def found(self, members, doing):
        asked = Asked(doing)
        sets = least_sets(members, asked.done_at)
        self.assertEqual(sets, all_least(members, asked.does), doing)
        return sets, asked.times

    def test_none(self):
        for members in ((), ("A",), tuple("ABCDEFGH")):
            self.assertEqual(self.found(members, [])[0], ())
            self.assertEqual(self.found(members, [("Q",)])[0], ())

    def test_the_empty_set(self):
        for members in ((), ("A",), tuple("ABCDEFGH")):
            self.assertEqual(self.found(members, [()])[0], ((),))
            self.assertEqual(self.found(members, [("A",), ()])[0], ((),))

    def test_few_sets(self):
        self.assertEqual(self.found((0, 1, 2), [(1,)])[0], ((1,),))
        self.assertEqual(self.found((0, 1, 2), [(1,), (0, 1), (0, 2)])[0], ((0, 2), (1,)))
        self.assertEqual(self.found(("A", "B"), [("B",), ("A",)])[0], (("A",), ("B",)))
        self.assertEqual(self.found((2, 5, 7), [(2, 5, 7)])[0], ((2, 5, 7),))

    def test_all_sets_of_a_size(self):
        members = tuple(range(8))
        for many in range(9):
            sets, _ = self.found(members, list(combinations(members, many)))
            self.assertEqual(sets, tuple(combinations(members, many)))

    def test_sets_made_by_chance(self):
        chance = random.Random(361)
        for _ in range(400):
            members = tuple(sorted(chance.sample("ABCDEFGHIJ", chance.randrange(11))))
            most = chance.randrange(len(members) + 1)
            self.found(members, [
                tuple(chance.sample(members, chance.randrange(most + 1))) if chance.random() < 0.1 else
                tuple(chance.sample(members, most)) for _ in range(chance.randrange(9))
            ])

    def test_large_sets_are_found_by_few_questions(self):
        # There are 256 sets of eight members, but each question tells of many of them.
        members = tuple(range(8))
        self.assertLessEqual(self.found(members, [members])[1], 8)
        self.assertLessEqual(self.found(members, [])[1], 1)
        self.assertLessEqual(self.found(members, [(3,)])[1], 3)
        self.assertLessEqual(self.found(members, [(0, 1, 2, 3), (4, 5, 6, 7)])[1], 24)
        self.assertLessEqual(self.found(members, [members[:at] + members[at + 1:] for at in range(8)])[1], 60)
