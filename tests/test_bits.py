import unittest

from onlybuilt.bits import has, together, without


class Bits(unittest.TestCase):

    def test_together_and_has(self):
        some = together([5, 0, 5, 70])
        self.assertEqual([k for k in range(80) if has(some, k)], [0, 5, 70])
        self.assertIs(has(some, 70), True)
        self.assertIs(has(some, 1), False)
        self.assertEqual(together([]), 0)

    def test_without(self):
        self.assertEqual(without(together([3, 4]), 3), together([4]))
        self.assertEqual(without(together([3, 4]), 2), together([3, 4]))
        self.assertEqual(without(0, 0), 0)


if __name__ == "__main__":
    unittest.main()
