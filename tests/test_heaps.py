import itertools
import random
import unittest

from dustwalk.heaps import pop_least, push


def drained(entries):
    heap = []
    for entry in entries:
        push(heap, entry)
    return [pop_least(heap) for entry in entries]


class TestHeaps(unittest.TestCase):
    def test_each_order_of_a_few(self):
        for size in range(7):
            for entries in itertools.permutations(range(size)):
                self.assertEqual(drained(entries), list(range(size)))

    def test_entries_alike(self):
        for entries in itertools.product(range(3), repeat=6):
            self.assertEqual(drained(entries), sorted(entries))

    def test_pushed_and_taken_in_between(self):
        draw = random.Random(4)
        heap, kept = [], []
        for turn in range(3000):
            if kept and draw.random() < 0.45:
                least = min(kept)
                kept.remove(least)
                self.assertEqual(pop_least(heap), least)
            else:
                entry = (draw.randrange(50), (draw.randrange(3), draw.randrange(3)))
                kept.append(entry)
                push(heap, entry)
        self.assertEqual([pop_least(heap) for entry in list(kept)], sorted(kept))


if __name__ == "__main__":
    unittest.main()
