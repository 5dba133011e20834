"""Points 15 and 2: bonds, settled by values or by a ring."""

import itertools
import random
import unittest

from furrow.bonds import settled
from tests.helper import has_values, holds, is_ring

MOST = 10 ** 20


class Settled(unittest.TestCase):
    def values(self, count, bonds):
        answer = settled(count, bonds)
        self.assertIs(type(answer), tuple)
        self.assertEqual(answer[0], "values", bonds)
        self.assertEqual(len(answer), 2)
        self.assertIs(type(answer[1]), list)
        self.assertEqual(len(answer[1]), count)
        self.assertEqual({type(value) for value in answer[1]}, {int})
        self.assertEqual(answer[1][0], 0)
        self.assertTrue(holds(bonds, answer[1]), bonds)
        return answer[1]

    def ring(self, count, bonds):
        answer = settled(count, bonds)
        self.assertIs(type(answer), tuple)
        self.assertEqual(answer[0], "ring", bonds)
        self.assertEqual(len(answer), 2)
        ring = answer[1]
        self.assertIs(type(ring), list)
        self.assertEqual({type(number) for number in ring}, {int})
        self.assertTrue(all(0 <= number < len(bonds) for number in ring))
        self.assertEqual(len(ring), len(set(ring)))
        self.assertTrue(is_ring([bonds[number] for number in ring]), bonds)
        return ring

    def looked_at(self, count, bonds):
        if has_values(count, bonds):
            self.values(count, bonds)
        else:
            self.ring(count, bonds)

    def test_no_bonds(self):
        for count in (1, 2, 13):
            self.values(count, [])

    def test_one_unknown(self):
        for c in (0, 1, MOST):
            self.values(1, [(0, 0, c)])
        for c in (-1, -7, -MOST):
            self.assertEqual(self.ring(1, [(0, 0, c)]), [0])
        self.assertEqual(self.ring(1, [(0, 0, 4), (0, 0, 0), (0, 0, -1)]), [2])

    def test_x_and_y_that_are_one_among_others(self):
        self.values(3, [(1, 1, 0), (0, 1, -3), (2, 2, 5)])
        self.assertEqual(self.ring(3, [(0, 1, -3), (2, 2, -1), (1, 2, 4)]), [1])
        self.assertEqual(self.ring(13, [(12, 12, -1)]), [0])

    def test_two_unknowns(self):
        self.values(2, [(0, 1, 5)])
        self.values(2, [(0, 1, -5)])
        self.values(2, [(1, 0, -5)])
        self.values(2, [(0, 1, -5), (1, 0, 9)])
        self.assertEqual(sorted(self.ring(2, [(0, 1, -5), (1, 0, 4)])), [0, 1])

    def test_values_that_hold_just_so(self):
        self.assertEqual(self.values(2, [(0, 1, -5), (1, 0, 5)]), [0, 5])
        self.assertEqual(self.values(3, [(1, 0, 7), (0, 1, -7), (2, 1, -9), (1, 2, 9)]), [0, 7, -2])

    def test_a_ring_of_nought_has_values(self):
        bonds = [(n, (n + 1) % 13, 12 if n == 5 else -1) for n in range(13)]
        self.values(13, bonds)

    def test_long_rings(self):
        for count in range(2, 14):
            for c in (-1, -MOST):
                bonds = [(n, (n + 1) % count, c if n == 0 else 0) for n in range(count)]
                for order in (bonds, bonds[::-1], bonds[1::2] + bonds[::2]):
                    self.assertEqual(len(self.ring(count, order)), count)

    def test_a_ring_far_from_what_hangs_on_it(self):
        # Unknowns 0 to 9 are drawn down one behind the other by the ring of 10, 11 and 12.
        bonds = [(n, n + 1, 0) for n in range(10)] + [(10, 11, 3), (11, 12, -9), (12, 10, 5)]
        for order in (bonds, bonds[::-1]):
            self.assertEqual(len(self.ring(13, order)), 3)

    def test_unknowns_that_no_bond_speaks_of(self):
        self.values(13, [(4, 7, -3)])
        self.assertEqual(sorted(self.ring(13, [(4, 7, -3), (7, 4, 2)])), [0, 1])

    def test_the_first_is_nought_wherever_the_bonds_lie(self):
        self.assertEqual(self.values(3, [(0, 1, -4), (1, 0, 4), (2, 1, 0), (1, 2, 0)]), [0, 4, 4])
        self.assertEqual(self.values(3, [(0, 1, 4), (1, 0, -4), (2, 1, 0), (1, 2, 0)]), [0, -4, -4])

    def test_bonds_twice_and_one_tighter_than_another(self):
        self.assertEqual(sorted(self.ring(2, [(0, 1, 3), (0, 1, -1), (1, 0, 0), (1, 0, 5)])), [1, 2])
        self.values(2, [(0, 1, 3), (0, 1, 3), (1, 0, -3), (1, 0, -3)])

    def test_the_greatest_numbers(self):
        up = [(n, n + 1, -MOST) for n in range(12)]
        values = self.values(13, up)
        self.assertGreaterEqual(values[12], 12 * MOST)
        self.assertEqual(self.values(13, up + [(n + 1, n, MOST) for n in range(12)]),
                         [n * MOST for n in range(13)])
        self.ring(13, up + [(n + 1, n, MOST - (n == 7)) for n in range(12)])
        self.ring(13, up + [(12, 0, MOST)])
        self.values(2, [(0, 1, MOST), (1, 0, -MOST)])
        self.ring(2, [(0, 1, MOST - 1), (1, 0, -MOST)])

    def test_numbers_that_are_exact_beyond_floats(self):
        self.values(3, [(0, 1, MOST), (1, 2, -MOST + 1), (2, 0, -1)])
        self.ring(3, [(0, 1, MOST), (1, 2, -MOST), (2, 0, -1)])

    def test_all_small_lists(self):
        bonds = [(x, y, c) for x in range(2) for y in range(2) for c in (-2, -1, 0, 1)]
        for many in range(4):
            for some in itertools.product(bonds, repeat=many):
                self.looked_at(2, list(some))

    def test_lists_by_chance(self):
        chance = random.Random(1)
        for n in range(3000):
            count = chance.randrange(1, 14)
            far = chance.choice((1, 3, 30, MOST))
            bonds = [(chance.randrange(count), chance.randrange(count), chance.randint(-far, far))
                     for n in range(chance.randrange(0, 2 * count))]
            self.looked_at(count, bonds)

    def test_sixty_bonds_by_chance(self):
        chance = random.Random(2)
        seen = {"values": 0, "ring": 0}
        for lap in range(1000):
            count = chance.choice((2, 5, 13))
            far = chance.choice((3, 100, MOST // 2 - 1))
            hidden = [chance.randint(-far, far) for n in range(count)]
            bonds = []
            for n in range(60):
                x, y = chance.randrange(count), chance.randrange(count)
                bonds.append((x, y, hidden[x] - hidden[y] + chance.randint(0, 2)))
            if lap % 2:
                x, y, c = bonds[chance.randrange(60)]
                bonds[chance.randrange(60)] = (y, x, -c - 1)
            self.looked_at(count, bonds)
            seen[settled(count, bonds)[0]] += 1
        self.assertGreater(min(seen.values()), 100)


class NothingIsKept(unittest.TestCase):
    LISTS = ((2, [(0, 1, -5), (1, 0, 9)]), (2, [(0, 1, -5), (1, 0, 4)]), (1, []),
             (3, [(0, 1, 3), (1, 2, -9), (2, 0, 5), (0, 2, 1)]))

    def test_asked_twice_and_with_others_between(self):
        first = [settled(count, bonds) for count, bonds in self.LISTS]
        again = [settled(count, bonds) for count, bonds in reversed(self.LISTS)]
        self.assertEqual(first, again[::-1])

    def test_what_is_handed_in_is_not_changed(self):
        for count, bonds in self.LISTS:
            kept = list(bonds)
            settled(count, bonds)
            self.assertEqual(bonds, kept)

    def test_what_is_told_is_the_askers_own(self):
        for count, bonds in self.LISTS:
            first = settled(count, bonds)
            kept = (first[0], list(first[1]))
            first[1].append(7)
            first[1][0] = 50
            self.assertEqual(settled(count, bonds), kept)

    def test_bonds_changed_behind_the_call(self):
        for count, bonds in self.LISTS:
            handed = list(bonds)
            answer = settled(count, handed)
            kept = (answer[0], list(answer[1]))
            handed.append((0, 0, -1))
            self.assertEqual(answer, kept)
            self.assertEqual(settled(count, handed)[0], "ring")


if __name__ == "__main__":
    unittest.main()
