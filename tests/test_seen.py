"""What is known on a way through steps, against all worlds: drawn answers and answers ruled out, looks also more than once."""

import random
import unittest

from drawn import chain_space, mixed_space, tree_space
from trueagain.seen import nothing_seen, sights_of, with_answer, with_other
from trueagain.sights import world_of


class TestSeen(unittest.TestCase):

    def test_all_worlds(self):
        draw = random.Random("seen")
        ended = []
        for space in (tree_space(), mixed_space(), chain_space()):
            trees = [("ask", look, tuple((answer, ("end", "")) for answer in answers), ("end", ""))
                     for look, answers in space.answers.items()]
            for _ in range(500):
                ended.append(self.go(draw, space, nothing_seen(trees)))
        self.assertGreater(ended.count(12), 100)
        self.assertGreater(len([count for count in ended if 2 < count < 12]), 400)

    def go(self, draw, space, seen):
        """Add to what is seen as long as there is such a world; return how often. Most of it is so in one world."""
        looks = draw.sample(list(space.answers), 5)
        there = space.world(draw)
        bits = space.everywhere
        told = []
        for count in range(12):
            look = draw.choice(looks)
            answers = draw.sample(space.answers[look], min(draw.randint(1, 3), len(space.answers[look])))
            is_one = there.answer(look) in answers
            if draw.random() < 0.08:
                is_one = not is_one
            if is_one:
                answers = [there.answer(look)] if there.answer(look) in answers else answers[:1]
            among = 0
            for answer in answers:
                among |= space.showing(look).get(answer, 0)
            bits &= among if is_one else ~among
            seen = with_answer(seen, look, answers[0]) if is_one else with_other(seen, look, tuple(answers))
            told.append((look, answers, is_one))
            self.assertEqual(seen is None, bits == 0, told)
            if seen is None:
                return count
            self.check_world(world_of(sights_of(seen)), told)
        return 12

    def check_world(self, world, told):
        for look, answers, is_one in told:
            self.assertIs(world.answer(look) in answers, is_one, (world.files(), told))


if __name__ == "__main__":
    unittest.main()
