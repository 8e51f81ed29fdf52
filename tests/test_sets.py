import unittest

from manyleaf.sets import choices_of, in_set, least_choice, size_of

MEMBERS = (
    [], [0], [1], [2], [7], [8], [29], [30], [31], [32], [59], [60], [63], [64], [65], [127], [128], [254], [255],
    [0, 1], [0, 2], [1, 2], [0, 255], [1, 255], [254, 255], [3, 5, 6], [0, 30, 60, 90], [29, 31, 61, 63, 200],
    [0, 1, 2, 3, 4, 5], [5, 6, 7, 8, 100, 101, 102], [10, 20, 30, 40, 50, 250],
    list(range(0, 256, 2)), list(range(1, 256, 2)), list(range(0, 256, 7)), list(range(256)), list(range(1, 256)),
    list(range(255)), list(range(100, 200)), [0, 300], [1000],
)


def set_of(members):
    return sum(2 ** number for number in members)


class Sets(unittest.TestCase):
    def test_in_set(self):
        for members in MEMBERS:
            for number in range(320):
                with self.subTest(members=members, number=number):
                    self.assertIs(in_set(set_of(members), number), number in members)

    def test_in_set_beyond_the_greatest_choice(self):
        for members in MEMBERS:
            for number in (1001, 4096, 10 ** 6, 10 ** 9):
                with self.subTest(members=members, number=number):
                    self.assertIs(in_set(set_of(members), number), False)

    def test_choices_of(self):
        for members in MEMBERS:
            with self.subTest(members=members):
                told = choices_of(set_of(members))
                self.assertIs(type(told), list)
                self.assertEqual(told, members)
                self.assertTrue(all(type(number) is int for number in told))

    def test_size_of(self):
        for members in MEMBERS:
            with self.subTest(members=members):
                told = size_of(set_of(members))
                self.assertIs(type(told), int)
                self.assertEqual(told, len(members))

    def test_least_choice(self):
        for members in MEMBERS:
            with self.subTest(members=members):
                told = least_choice(set_of(members))
                if not members:
                    self.assertIsNone(told)
                else:
                    self.assertIs(type(told), int)
                    self.assertEqual(told, members[0])

    def test_every_set_of_ten_choices(self):
        for choices in range(2 ** 10):
            members = [number for number in range(10) if choices // 2 ** number % 2 == 1]
            self.assertEqual(choices_of(choices), members)
            self.assertEqual(size_of(choices), len(members))
            self.assertEqual(least_choice(choices), min(members, default=None))
            self.assertEqual([number for number in range(12) if in_set(choices, number)], members)

    def test_by_plain_numbers(self):
        self.assertEqual(choices_of(0), [])
        self.assertEqual(choices_of(1), [0])
        self.assertEqual(choices_of(22), [1, 2, 4])
        self.assertEqual(size_of(22), 3)
        self.assertEqual(least_choice(22), 1)
        self.assertIs(in_set(22, 0), False)
        self.assertIs(in_set(22, 4), True)
        self.assertIs(in_set(22, 5), False)

    def test_a_list_that_was_told_is_the_askers_own(self):
        for choices in (0, 1, 22, 2 ** 255 + 1):
            first = choices_of(choices)
            before = list(first)
            size, least = size_of(choices), least_choice(choices)
            first.append(99)
            first.insert(0, -1)
            self.assertEqual(choices_of(choices), before)
            self.assertIsNot(choices_of(choices), choices_of(choices))
            self.assertEqual((size_of(choices), least_choice(choices)), (size, least))
            self.assertIs(in_set(choices, 99), False)


if __name__ == "__main__":
    unittest.main()
