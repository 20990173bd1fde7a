"""Points 6 to 8 against all small worlds: what is said of sights is so in each of them."""

import unittest
from itertools import combinations

from all_worlds import small_sights, small_worlds, truths
from trueagain.sights import apart, bars, follows, least, sure, world_of


class TestAllWorlds(unittest.TestCase):

    @classmethod
    def setUpClass(cls):
        cls.worlds = small_worlds()
        cls.sights = small_sights()
        cls.bits = truths(cls.worlds, cls.sights)
        cls.all = range(len(cls.sights))

    def both(self, numbers):
        """A number whose bits tell in which worlds all sights with these numbers are true."""
        bits = (1 << len(self.worlds)) - 1
        for number in numbers:
            bits &= self.bits[number]
        return bits

    def test_each_sight_is_true_somewhere(self):
        self.assertEqual(len(self.worlds), 2 * 74 * 74)
        self.assertTrue(all(self.bits))

    def test_bars(self):
        for one in self.all:
            for other in self.all:
                self.assertIs(bars(self.sights[one], self.sights[other]), self.both((one, other)) == 0,
                              (self.sights[one], self.sights[other]))

    def test_follows_from_one(self):
        for one in self.all:
            for other in self.all:
                self.assertIs(follows([self.sights[one]], self.sights[other]),
                              self.bits[one] & ~self.bits[other] == 0, (self.sights[one], self.sights[other]))

    def triples(self):
        """Every ninth set of three sights, with their order turned round now and then."""
        for at, numbers in enumerate(combinations(self.all, 3)):
            if at % 9 == 0:
                yield numbers[::-1] if at % 2 else numbers

    def test_apart_and_world_of(self):
        for numbers in self.triples():
            sights = [self.sights[number] for number in numbers]
            pairs = [pair for pair in combinations(range(3), 2)
                     if self.both([numbers[at] for at in pair]) == 0]
            self.assertEqual(apart(sights), pairs[0] if pairs else None)
            self.assertEqual(bool(pairs), self.both(numbers) == 0, sights)
            if not pairs:
                world = world_of(sights)
                self.assertEqual([world.answer(look) for look, _ in sights], [answer for _, answer in sights])

    def test_follows_and_sure(self):
        for numbers in list(self.triples())[::7]:
            sights = [self.sights[number] for number in numbers]
            bits = self.both(numbers)
            if bits == 0:
                continue
            sures = {}
            for number, (look, answer) in enumerate(self.sights):
                told = bits & ~self.bits[number] == 0
                self.assertIs(follows(sights, self.sights[number]), told)
                sures.setdefault(look, None)
                if told:
                    sures[look] = (answer,)
            for look, answer in sures.items():
                self.assertEqual(sure(sights, look), answer)

    def test_least(self):
        for numbers in self.triples():
            if self.both(numbers):
                kept = [number for number in numbers
                        if not any(self.bits[other] & ~self.bits[number] == 0 for other in numbers if other != number)]
                self.assertEqual(least([self.sights[number] for number in numbers]),
                                 [self.sights[number] for number in kept])
                self.assertEqual(self.both(kept), self.both(numbers))


if __name__ == "__main__":
    unittest.main()
