"""Points 16, 15 and 2: how much one unknown can be above another one."""

import itertools
import random
import unittest

from furrow.errors import FurrowError, NoValues
from furrow.reach import most
from tests.helper import has_values, holds, is_ring, shortest

MOST = 10 ** 20


class Reach(unittest.TestCase):
    def told(self, count, bonds, x, y):
        """What is told, held against the bonds."""
        answer = most(count, bonds, x, y)
        if answer is None:
            return None
        self.assertIs(type(answer), tuple)
        c, chain, values = answer
        self.assertEqual([type(part) for part in answer], [int, list, list])
        self.chain_holds(bonds, x, y, c, chain)
        self.assertEqual(len(values), count)
        self.assertEqual({type(value) for value in values}, {int})
        self.assertEqual(values[0], 0)
        self.assertTrue(holds(bonds, values), bonds)
        self.assertEqual(values[x] - values[y], c)
        return c

    def chain_holds(self, bonds, x, y, c, chain):
        self.assertEqual({type(number) for number in chain} - {int}, set())
        self.assertTrue(all(0 <= number < len(bonds) for number in chain))
        at = x
        for number in chain:
            self.assertEqual(bonds[number][0], at)
            at = bonds[number][1]
        self.assertEqual(at, y)
        self.assertEqual(sum(bonds[number][2] for number in chain), c)

    def refused(self, count, bonds, x, y):
        try:
            most(count, bonds, x, y)
        except NoValues as error:
            ring = error.ring
            self.assertIs(type(ring), list)
            self.assertEqual(len(ring), len(set(ring)))
            self.assertTrue(is_ring([bonds[number] for number in ring]), bonds)
            return
        self.fail("not refused")

    def looked_at(self, count, bonds):
        far, good = shortest(count, bonds), has_values(count, bonds)
        for x, y in itertools.product(range(count), repeat=2):
            if not good:
                self.refused(count, bonds, x, y)
                continue
            self.assertEqual(self.told(count, bonds, x, y), far[x][y])
            if far[x][y] is None:
                # Then x can be above y by as much as one likes.
                self.assertTrue(has_values(count, bonds + [(y, x, -10 ** 30)]), bonds)

    def test_one_bond(self):
        self.assertEqual(self.told(2, [(0, 1, 5)], 0, 1), 5)
        self.assertEqual(self.told(2, [(1, 0, -5)], 1, 0), -5)
        self.assertIsNone(most(2, [(0, 1, 5)], 1, 0))
        self.assertEqual(most(2, [(0, 1, 5)], 0, 1), (5, [0], [0, -5]))

    def test_x_and_itself(self):
        for count, bonds in ((1, []), (1, [(0, 0, 0)]), (1, [(0, 0, 7)]), (13, []),
                             (3, [(0, 1, 4), (1, 2, -4), (2, 0, 0)]), (3, [(2, 1, -9)])):
            for x in range(count):
                self.assertEqual(most(count, bonds, x, x)[:2], (0, []))
                self.assertEqual(self.told(count, bonds, x, x), 0)

    def test_no_chain(self):
        self.assertIsNone(most(2, [], 0, 1))
        self.assertIsNone(most(3, [(0, 1, 1), (2, 1, 1)], 0, 2))
        self.assertIsNone(most(3, [(0, 1, 1), (2, 1, 1)], 1, 0))
        self.assertIsNone(most(13, [(n, n + 1, -3) for n in range(12)], 12, 0))

    def test_the_shortest_of_several_chains(self):
        bonds = [(0, 3, 10), (0, 1, 4), (1, 3, 5), (0, 2, -20), (2, 3, 28), (0, 3, 12)]
        self.assertEqual(self.told(4, bonds, 0, 3), 8)
        self.assertEqual(most(4, bonds, 0, 3)[1], [3, 4])
        self.assertEqual(self.told(4, bonds + [(0, 3, 7)], 0, 3), 7)

    def test_long_chains(self):
        for bonds in ([(n, n + 1, n - 6) for n in range(12)], [(n, n + 1, n - 6) for n in range(11, -1, -1)]):
            self.assertEqual(self.told(13, bonds, 0, 12), -6)
            self.assertEqual(len(most(13, bonds, 0, 12)[1]), 12)
            self.assertEqual(self.told(13, bonds, 3, 9), -3)

    def test_bonds_that_hold_just_so(self):
        bonds = [(0, 1, -5), (1, 0, 5), (1, 2, 3), (2, 1, -3)]
        self.assertEqual(most(3, bonds, 0, 2)[0::2], (-2, [0, 5, 2]))
        self.assertEqual(most(3, bonds, 2, 0)[0::2], (2, [0, 5, 2]))
        ring = [(n, (n + 1) % 13, 12 if n == 5 else -1) for n in range(13)]
        for x, y in itertools.product(range(13), repeat=2):
            self.assertEqual(self.told(13, ring, x, y), shortest(13, ring)[x][y])

    def test_unknowns_off_the_chain(self):
        # Others are held from x or y, or hold them, or hang on nothing.
        bonds = [(1, 2, 4), (3, 1, -9), (2, 4, -2), (4, 2, 2), (5, 6, -1), (1, 7, -100), (8, 2, -50)]
        for x, y in itertools.product(range(9), repeat=2):
            self.assertEqual(self.told(9, bonds, x, y), shortest(9, bonds)[x][y])

    def test_a_chain_from_x_to_what_hangs_on_nothing_else(self):
        # Unknown 2 has no chain to 1, and must lie high enough above 0.
        bonds = [(0, 1, 5), (0, 2, -1000)]
        self.assertEqual(self.told(3, bonds, 0, 1), 5)

    def test_the_greatest_numbers(self):
        up = [(n, n + 1, MOST) for n in range(12)]
        self.assertEqual(self.told(13, up, 0, 12), 12 * MOST)
        self.assertEqual(self.told(13, up + [(n + 1, n, -MOST) for n in range(12)], 12, 0), -12 * MOST)
        self.assertEqual(self.told(3, [(0, 1, MOST), (1, 2, -MOST + 1)], 0, 2), 1)
        self.assertEqual(self.told(3, [(0, 1, MOST), (1, 2, -MOST)], 0, 2), 0)

    def test_bonds_without_values_ahead_of_all_else(self):
        for bonds in ([(0, 0, -1)], [(0, 1, -5), (1, 0, 4)], [(2, 2, 3), (2, 2, -MOST), (0, 1, 0)],
                      [(0, 1, 1), (1, 2, 1), (2, 0, -3)]):
            for x, y in itertools.product(range(4), repeat=2):
                self.refused(4, bonds, x, y)
        self.refused(1, [(0, 0, -1)], 0, 0)
        with self.assertRaises(NoValues) as caught:
            most(1, [(0, 0, 3), (0, 0, -1)], 0, 0)
        self.assertEqual(caught.exception.ring, [1])
        self.assertIsInstance(caught.exception, FurrowError)

    def test_a_long_ring(self):
        bonds = [(n, (n + 1) % 13, 11 if n == 5 else -1) for n in range(13)]
        self.refused(13, bonds, 0, 7)
        with self.assertRaises(NoValues) as caught:
            most(13, bonds, 0, 0)
        self.assertEqual(sorted(caught.exception.ring), list(range(13)))

    def test_all_small_lists(self):
        bonds = [(x, y, c) for x in range(2) for y in range(2) for c in (-2, -1, 0, 1)]
        for many in range(3):
            for some in itertools.product(bonds, repeat=many):
                self.looked_at(2, list(some))

    def test_lists_by_chance(self):
        chance = random.Random(6)
        for n in range(300):
            count = chance.randrange(1, 8)
            far = chance.choice((1, 3, 30, MOST))
            bonds = [(chance.randrange(count), chance.randrange(count), chance.randint(-far // 2, far))
                     for n in range(chance.randrange(0, 2 * count))]
            self.looked_at(count, bonds)

    def test_sixty_bonds_of_thirteen_unknowns(self):
        chance = random.Random(7)
        for lap in range(20):
            far = chance.choice((3, 100, MOST // 2 - 10))
            hidden = [chance.randint(-far, far) for n in range(13)]
            bonds = []
            for n in range(60):
                x, y = chance.randrange(13), chance.randrange(13)
                bonds.append((x, y, hidden[x] - hidden[y] + chance.randint(0, 9)))
            self.looked_at(13, bonds)


class NothingIsKept(unittest.TestCase):
    QUESTIONS = ((2, [(0, 1, 5)], 0, 1), (2, [(0, 1, 5)], 1, 0), (3, [(0, 1, 4), (1, 2, -9)], 0, 2),
                 (3, [(0, 1, 4), (1, 2, -9)], 1, 1))

    def test_asked_twice_and_with_others_between(self):
        first = [most(*question) for question in self.QUESTIONS]
        with self.assertRaises(NoValues):
            most(2, [(0, 1, -1), (1, 0, 0)], 0, 1)
        again = [most(*question) for question in reversed(self.QUESTIONS)]
        self.assertEqual(first, again[::-1])

    def test_what_is_handed_in_is_not_changed(self):
        for count, bonds, x, y in self.QUESTIONS:
            kept = list(bonds)
            most(count, bonds, x, y)
            self.assertEqual(bonds, kept)
        bonds = [(0, 1, -1), (1, 0, 0)]
        with self.assertRaises(NoValues):
            most(2, bonds, 0, 1)
        self.assertEqual(bonds, [(0, 1, -1), (1, 0, 0)])

    def test_what_is_told_is_the_askers_own(self):
        for question in self.QUESTIONS:
            answer = most(*question)
            if answer is not None:
                kept = (answer[0], list(answer[1]), list(answer[2]))
                answer[1].append(9)
                answer[2].clear()
                self.assertEqual(most(*question), kept)

    def test_bonds_changed_behind_the_call(self):
        bonds = [(0, 1, 4), (1, 2, -9)]
        answer = most(3, bonds, 0, 2)
        kept = (answer[0], list(answer[1]), list(answer[2]))
        bonds[0] = (0, 1, -50)
        bonds.append((0, 0, -1))
        self.assertEqual(answer, kept)

    def test_a_ring_is_the_askers_own(self):
        rings = []
        for n in range(2):
            with self.assertRaises(NoValues) as caught:
                most(2, [(0, 1, -1), (1, 0, 0)], 0, 1)
            rings.append(sorted(caught.exception.ring))
            caught.exception.ring.clear()
        self.assertEqual(rings, [[0, 1], [0, 1]])


if __name__ == "__main__":
    unittest.main()
