"""[3.1] to [3.5] by chance: a plain run tells what another one, written otherwise, tells."""

import unittest

from chance import chance_book, chance_deeds, chosen
from frozenmakers.errors import TooLong
from frozenmakers.plain import Plain
from oracle import World


class Chance(unittest.TestCase):
    def same(self, seed, most, many):
        whole = chance_book(seed)
        run, world = Plain(whole, most=most), World(whole, most)
        for deed in chance_deeds(seed, many):
            way, *rest = chosen(deed, whole, run)
            if way == "begin":
                self.assertEqual(world.begin(*rest), run.begin(*rest))
            else:
                try:
                    told = getattr(run, way)(*rest)
                except TooLong as error:
                    self.assertEqual(most, error.most)
                    told = None
                self.assertEqual(world.deed(way, *rest), told, (seed, deed))
            self.assertEqual(world.said, run.said(), seed)
            self.assertEqual(len(world.makers), len(run))
            for number, maker in world.makers.items():
                self.assertEqual(maker.stage, run.state(number), seed)
                self.assertEqual(tuple(sorted(maker.told_alive()[0])), run.alive(number), (seed, number))
                self.assertEqual(maker.told_held(), run.held(number), (seed, number))

    def test_most_askings(self):
        for seed in range(330):
            self.same(seed, 150, 25)

    def test_many_are_too_long(self):
        for seed in range(330, 430):
            self.same(seed, 6, 25)


if __name__ == "__main__":
    unittest.main()
