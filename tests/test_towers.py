"""Point 10: towers, and what they bring beyond every bound."""

import unittest

from everymoment.charges import bound, copied, most_linkers, written
from everymoment.errors import BadLevels, BadMany, BadShare, BadSpare, BadTower
from everymoment.keeping import kept_of
from everymoment.shapes import linkers
from everymoment.stores import ran, writes
from everymoment.texts import Program
from everymoment.towers import beyond, shows_beyond, tower, tower_builds, tower_calls, tower_copies
from samples import odd_values, raised

# All (p, levels) of at most 60 records, with how many these are.
SIZES = {(1, 1): 1, (1, 2): 2, (1, 3): 3, (1, 4): 4, (1, 5): 5, (1, 6): 6, (2, 1): 1, (2, 2): 3, (2, 3): 7, (2, 4): 15,
         (2, 5): 31, (3, 1): 1, (3, 2): 4, (3, 3): 13, (3, 4): 40, (4, 1): 1, (4, 2): 5, (4, 3): 21}


def integers_apart(least, most):
    """Odd values but integers from least to most."""
    return [value for value in odd_values() + ['1', 1.0, (1,)] if type(value) is not int or not least <= value <= most]


class TowerTest(unittest.TestCase):

    def test_text(self):
        self.assertEqual(tower(1, 1).text, 'fields key up\ndoors low\npart build\nnew r0\nput low r0\npart poke n\n'
                                           'set low key n')
        self.assertEqual(tower(p=1, levels=3).text.split('\n')[3:-2], [
            'new r0', 'put low r0', 'new r1', 'set r1 up r0', 'new r2', 'set r2 up r1'])
        self.assertEqual(tower(3, 3).text.split('\n')[5:-2], [
            'new r1', 'set r1 up r0', 'new r2', 'set r2 up r0', 'new r3', 'set r3 up r0', 'new r4', 'set r4 up r1',
            'new r5', 'set r5 up r1', 'new r6', 'set r6 up r1', 'new r7', 'set r7 up r2', 'new r8', 'set r8 up r2',
            'new r9', 'set r9 up r2', 'new r10', 'set r10 up r3', 'new r11', 'set r11 up r3', 'new r12',
            'set r12 up r3'])
        for pair in SIZES:
            self.assertIs(type(tower(*pair)), Program)
            self.assertEqual(tower(*pair), tower(*pair))

    def test_records_and_links(self):
        for (p, levels), many in SIZES.items():
            store = ran(tower(p, levels), tower_calls(1))
            self.assertEqual(store.records, many)
            inner = (many - 1) // p
            self.assertEqual(linkers(store), (p,) * inner + (0,) * (many - inner))
            self.assertEqual(store.read(('low', 'key')), 1)

    def test_too_many_records(self):
        for p in range(1, 5):
            for levels in range(1, 7):
                if (p, levels) not in SIZES:
                    self.assertEqual(raised(self, BadTower, tower, p, levels), (p, levels))

    def test_errors(self):
        for value in integers_apart(1, 4):
            self.assertIs(raised(self, BadTower, tower, value, 0), value)
            self.assertIs(raised(self, BadTower, tower_builds, value, 0), value)
            self.assertIs(raised(self, BadTower, tower_copies, value, None, 0, -1), value)
            self.assertIs(raised(self, BadTower, beyond, value, None, -1, 0), value)
            self.assertIs(raised(self, BadTower, shows_beyond, value, None, -1, 0, None), value)
        for value in integers_apart(1, 6) + [7]:
            self.assertIs(raised(self, BadTower, tower, 1, value), value)
            self.assertIs(raised(self, BadTower, tower, 4, value), value)
        self.assertEqual([raised(self, BadTower, tower, p, 6) for p in (0, 5, -1)], [0, 5, -1])


class CallsTest(unittest.TestCase):

    def test_calls(self):
        self.assertEqual(tower_calls(0), (('build', ()),))
        self.assertEqual(tower_calls(many=3), (('build', ()), ('poke', (1,)), ('poke', (2,)), ('poke', (3,))))
        self.assertEqual((len(tower_calls(400)), tower_calls(400)[-1]), (401, ('poke', (400,))))

    def test_errors(self):
        for value in integers_apart(0, 400) + [401]:
            self.assertIs(raised(self, BadMany, tower_calls, value), value)


class SumsTest(unittest.TestCase):

    def test_builds(self):
        for (p, levels), many in SIZES.items():
            self.assertEqual(tower_builds(p, levels), many - 1)
            self.assertEqual(len(writes(tower(p, levels), tower_calls(0))), many - 1)
        for p in range(1, 5):
            for levels in (1, 2, 7, 60, 1000):
                self.assertEqual(tower_builds(p=p, levels=levels), sum(p ** k for k in range(1, levels)))

    def test_copies_by_the_sum(self):
        for p in range(1, 5):
            for spare in range(9):
                for levels in (1, 2, 3, 10, 77):
                    for many in (0, 1, 2, spare, spare + 1, 99, 12 ** 9, 10 ** 50, 10 ** 90 + 7, (spare + 1) ** 77,
                                 (spare + 1) ** 77 - 1):
                        found = sum(p ** k * (many // (spare + 1) ** (k + 1)) for k in range(levels))
                        self.assertEqual(tower_copies(p, spare, levels, many), found)
        self.assertEqual(tower_copies(p=4, spare=0, levels=1000, many=1), (4 ** 1000 - 1) // 3)
        self.assertEqual(tower_copies(4, 8, 1000, 10 ** 60),
                         sum(4 ** k * (10 ** 60 // 9 ** (k + 1)) for k in range(1000)))

    def test_copies_of_the_machine(self):
        for pair, records in SIZES.items():
            for spare in (0, 1, 2, 3, 5):
                for many in (0, 1, 5, 27):
                    kept = kept_of(tower(*pair), spare, tower_calls(many))
                    found = tower_copies(pair[0], spare, pair[1], many)
                    self.assertEqual((kept.copies - records, copied(kept)), (found, found))
                    self.assertEqual(written(kept), many + tower_builds(*pair))

    def test_errors_in_sequence(self):
        for value in integers_apart(0, 8) + [9]:
            self.assertIs(raised(self, BadSpare, tower_copies, 2, value, 0, -1), value)
            self.assertIs(raised(self, BadSpare, beyond, 2, value, -1, 0), value)
            self.assertIs(raised(self, BadSpare, shows_beyond, 2, value, -1, 0, None), value)
        for value in integers_apart(1, 1000) + [0, 1001, -5]:
            self.assertIs(raised(self, BadLevels, tower_builds, 2, value), value)
            self.assertIs(raised(self, BadLevels, tower_copies, 2, 1, value, -1), value)
        for value in integers_apart(0, 10 ** 60):
            self.assertIs(raised(self, BadMany, tower_copies, 2, 1, 1, value), value)
        self.assertEqual(tower_copies(2, 8, 1000, 0), 0)


class BeyondTest(unittest.TestCase):

    def check(self, p, spare, up, down):
        found = beyond(p, spare, up, down)
        self.assertIs(shows_beyond(p, spare, up, down, found), True)
        never = spare >= p and up * (spare - p + 1) >= down
        self.assertIs(found is None, never)
        self.assertIs(shows_beyond(p, spare, up, down, None), never)
        if not never:
            self.assertIs(type(found), tuple)
            levels, many = found
            self.assertTrue(1 <= levels <= 1000 and many >= 0)
            copies = sum(p ** k * (many // (spare + 1) ** (k + 1)) for k in range(levels))
            self.assertGreater(copies * down, up * (many + sum(p ** k for k in range(1, levels))))

    def test_beyond(self):
        for p in range(1, 5):
            for spare in range(9):
                for up in (0, 1, 2, 3, 7, 50, 199, 200):
                    for down in (1, 2, 3, 5, 99, 999, 1000):
                        self.check(p, spare, up, down)

    def test_just_at_the_share_and_just_below(self):
        for p in range(1, 5):
            for spare in range(p, 9):
                each = spare - p + 1
                for up in (1, 2, 3, 100, 124, 199, 200):
                    if up * each < 1000:
                        self.assertIsNone(beyond(p, spare, up, up * each))
                        self.assertIsNotNone(beyond(p, spare, up, up * each + 1))
                        self.check(p, spare, up, up * each + 1)
                        self.check(p, spare, up, up * each)

    def test_up_0(self):
        for p in range(1, 5):
            for spare in range(9):
                for down in (1, 1000):
                    self.assertIsNotNone(beyond(p, spare, 0, down))
                    self.check(p, spare, 0, down)
                    self.assertIs(shows_beyond(p, spare, 0, down, (1, spare + 1)), True)
                    self.assertIs(shows_beyond(p, spare, 0, down, (1, spare)), False)

    def test_too_few_spare_lines(self):
        for p in range(1, 5):
            for spare in range(p):
                self.assertIsNotNone(beyond(p, spare, 200, 1))
                self.check(p, spare, 200, 1)

    def test_a_tower_that_is_told_does_so(self):
        for p, spare, up, down in ((2, 0, 1, 1), (2, 1, 1, 1), (2, 2, 1, 2), (1, 1, 3, 4), (3, 3, 1, 2), (1, 0, 3, 2)):
            levels, many = beyond(p, spare, up, down)
            if (p, levels) in SIZES and many <= 400:
                kept = kept_of(tower(p, levels), spare, tower_calls(many))
                self.assertGreater(copied(kept) * down, up * written(kept))
                self.assertLessEqual(most_linkers(kept), p)
                if spare >= p:
                    self.assertLessEqual(copied(kept), bound(kept))

    def test_shown(self):
        self.assertIs(shows_beyond(p=2, spare=1, up=1, down=1, value=(3, 16)), True)
        # 8 + 8 + 8 copies of 16 + 6 writes; of 15 there are 7 + 6 + 4 of 21.
        self.assertEqual([shows_beyond(2, 1, 1, 1, (3, many)) for many in (2, 15, 16)], [False, False, True])
        self.assertEqual([shows_beyond(2, 1, 24, 22, (3, 16)), shows_beyond(2, 1, 12, 11, (3, 16))], [False, False])
        self.assertEqual([shows_beyond(2, 1, 23, 22, (3, 16)), shows_beyond(2, 1, 25, 22, (3, 16))], [True, False])
        self.assertIs(shows_beyond(4, 3, 200, 1, (1000, 2 * 4 ** 1000)), True)
        levels, many = beyond(4, 3, 200, 1)
        self.assertIs(shows_beyond(4, 3, 200, 1, (levels, many * 10 ** 40)), True)
        self.assertIs(shows_beyond(4, 3, 200, 1, (levels - 1, many)), False)
        # There, no tower is told, whatever is claimed.
        for value in ((1, 1), (1000, 4 ** 500), (3, 16)):
            self.assertIs(shows_beyond(2, 3, 1, 2, value), False)

    def test_not_shown(self):
        for value in odd_values() + [(0, 16), (1001, 16), (1001, 2 ** 1100), (3, -1), (True, 16), (3, True), ('3', 16),
                                     (3, '16'), (3,), (3, 16, 0), [3, 16], (None, None), (3, None), (-3, 16), 3, 16,
                                     ((3, 16),)]:
            self.assertIs(shows_beyond(2, 1, 1, 1, value), False, value)
        for value in odd_values():
            self.assertIs(shows_beyond(2, 3, 1, 2, value), value is None, value)
            self.assertIs(shows_beyond(2, 1, 1, 1, (value, 10 ** 9)), type(value) is int and 2 < value <= 5, value)

    def test_no_levels(self):
        for levels in (0, -1, 1001):
            self.assertIs(shows_beyond(2, 1, 0, 1, (levels, 16)), False)
        self.assertIs(shows_beyond(2, 1, 0, 1, (1, 16)), True)

    def test_errors(self):
        for value in integers_apart(0, 200) + [201]:
            self.assertIs(raised(self, BadShare, beyond, 1, 1, value, 0), value)
            self.assertIs(raised(self, BadShare, shows_beyond, 1, 1, value, 0, None), value)
        for value in integers_apart(1, 1000) + [0, 1001]:
            self.assertIs(raised(self, BadShare, beyond, 1, 1, 1, value), value)
            self.assertIs(raised(self, BadShare, shows_beyond, 1, 1, 1, value, None), value)
        self.assertEqual([beyond(p=1, spare=1, up=1, down=1), beyond(1, 1, 200, 200)], [None, None])


if __name__ == '__main__':
    unittest.main()
