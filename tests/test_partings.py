"""Parted and Three by hand, over webs of few and of many places."""

import random
import unittest
from itertools import permutations

from helping import all_ties, even_groups, rows_of, ties_between
from surecrowd.answers import Parted, Three


class TestParted(unittest.TestCase):
    def check(self, so, groups, places, ties):
        self.assertIs(Parted(groups).shows(places, ties), so)

    def test_every_number_of_places(self):
        for places in range(1, 61):
            for many in {1, 2, 3, 5, places}:
                with self.subTest(places=places, many=many):
                    groups = even_groups(places, many)
                    ties = ties_between(groups)
                    self.check(True, groups, places, ties)
                    self.check(True, groups[::-1], places, ties)

    def test_groups_of_any_sizes(self):
        for sizes in ((1,), (1, 1), (5, 1, 2), (1, 59), (59, 1), (10, 20, 30), (3, 1, 1, 1, 9)):
            groups = rows_of(sizes)
            ties = ties_between(groups)
            for seed in range(3):
                with self.subTest(sizes=sizes, seed=seed):
                    random.Random(seed).shuffle(groups)
                    random.Random(seed).shuffle(ties)
                    self.check(True, groups, sum(sizes), ties)

    def test_a_tie_more_or_fewer(self):
        for sizes in ((2, 1), (5, 1, 2), (1, 59), (10, 20, 30)):
            groups, places = rows_of(sizes), sum(sizes)
            ties = ties_between(groups)
            untied = [tie for tie in all_ties(places) if tie not in ties]
            with self.subTest(sizes=sizes):
                for gone in (ties[0], ties[-1], ties[len(ties) // 2]):
                    self.check(False, groups, places, [tie for tie in ties if tie != gone])
                for more in (untied[0], untied[-1]):
                    self.check(False, groups, places, ties + [more])
                self.check(False, groups, places, ties[1:] + [untied[0]])

    def test_with_no_ties_all_places_are_one_group(self):
        for places in (1, 2, 7, 60):
            with self.subTest(places=places):
                self.check(True, [list(range(places))], places, [])
                self.check(places == 1, [[place] for place in range(places)], places, [])

    def test_with_all_ties_each_place_is_alone(self):
        for places in (1, 2, 7, 60):
            with self.subTest(places=places):
                self.check(True, [[place] for place in range(places)], places, all_ties(places))
                self.check(places == 1, [list(range(places))], places, all_ties(places))

    def test_spoiled_groups(self):
        groups = [[0, 2, 4], [1], [3, 5]]
        ties = ties_between(groups)
        self.check(True, groups, 6, ties)
        self.check(True, [[3, 5], [0, 2, 4], [1]], 6, ties)
        spoiled = (
            [], [[]], [[0, 2, 4], [3, 5]], [[0, 2, 4], [1], [3]], [[0, 2, 4], [1], [3, 5], []],
            [[], [0, 2, 4], [1], [3, 5]], [[0, 2, 4], [1], [3, 5], [1]], [[0, 2, 4], [1, 1], [3, 5]],
            [[0, 2, 2, 4], [1], [3, 5]], [[0, 2, 4], [1, 2], [3, 5]], [[0, 4, 2], [1], [3, 5]],
            [[0, 2, 4], [1], [5, 3]], [[0, 2], [1, 4], [3, 5]], [[0, 2, 4], [1], [3, 6]],
            [[0, 2, 4], [1], [3, 5, 6]], [[0, 2, 4], [1], [3, 5], [6]], [[-1, 0, 2, 4], [1], [3, 5]],
            [[0, 2, 4], [-5], [3, 5]], [[0, 2, 4], [1], [3, 5], [-1]], [[0, 1, 2, 3, 4, 5]],
            [[0], [1], [2], [3], [4], [5]], [[0, 2, 4], [1, 3, 5]], [[0, 2], [4], [1], [3, 5]],
            [[0, 2, 4], [1], [3, 10 ** 50]],
        )
        for told in spoiled:
            with self.subTest(told=told):
                self.check(False, told, 6, ties)

    def test_spoiled_groups_of_a_web_without_ties(self):
        # Here no pair of places tells the groups apart: how they hold the places has to.
        for told in ([], [[]], [[0, 1]], [[0, 1, 2], []], [[0, 1, 2, 3]], [[-1, 0, 1, 2]], [[0, 1, 1, 2]],
                     [[2, 1, 0]], [[0, 1, 2], [0, 1, 2]], [[0, 0, 1]], [[0, 1, 3]]):
            with self.subTest(told=told):
                self.check(False, told, 3, [])


class TestThree(unittest.TestCase):
    def check(self, so, trio, places, ties):
        self.assertIs(Three(*trio).shows(places, ties), so)

    def test_each_of_the_ties_there_or_not(self):
        pairs = [(2, 5), (2, 7), (5, 7)]
        for bits in range(8):
            ties = [pair for at, pair in enumerate(pairs) if bits >> at & 1]
            others = [(0, 1), (0, 2), (5, 6), (7, 8)]
            for trio in permutations((2, 5, 7)):
                with self.subTest(ties=ties, trio=trio):
                    first = (min(trio[:2]), max(trio[:2]))
                    self.check(ties == [first], trio, 9, others + ties)

    def test_two_places_alike(self):
        ties = [(0, 1)]
        for trio in ((0, 0, 2), (0, 1, 0), (0, 1, 1), (1, 0, 0), (1, 0, 1), (2, 2, 2), (2, 2, 3)):
            with self.subTest(trio=trio):
                self.check(False, trio, 4, ties)

    def test_places_beyond_the_web_or_below_0(self):
        ties = [(0, 1), (1, 3)]
        for trio in ((0, 1, 4), (0, 1, -1), (0, 1, 10 ** 50), (0, 1, -10 ** 50), (-4, 1, 2), (0, -3, 2), (4, 5, 6)):
            with self.subTest(trio=trio):
                self.check(False, trio, 4, ties)
        self.check(True, (0, 1, 2), 4, ties)
        self.check(False, (0, 1, 2), 2, [(0, 1)])

    def test_the_third_place_at_either_side_and_between(self):
        for one, other, third in ((3, 9, 5), (3, 9, 0), (3, 9, 11), (9, 3, 5), (9, 3, 0), (9, 3, 11)):
            with self.subTest(trio=(one, other, third)):
                self.check(True, (one, other, third), 12, [(3, 9)])
                for place in (3, 9):
                    more = (min(place, third), max(place, third))
                    self.check(False, (one, other, third), 12, [(3, 9), more])
                    self.check(False, (one, other, third), 12, [more])

    def test_no_three_of_a_web_that_is_parted(self):
        for sizes in ((3,), (1, 1, 1), (2, 2, 3), (1, 6)):
            groups, places = rows_of(sizes), sum(sizes)
            ties = ties_between(groups)
            for trio in permutations(range(places), 3):
                with self.subTest(sizes=sizes, trio=trio):
                    self.check(False, trio, places, ties)

    def test_of_a_web_of_60_places(self):
        ties = ties_between(even_groups(60, 4))
        random.Random(1).shuffle(ties)
        without = [tie for tie in ties if tie != (10, 59)]
        self.check(False, (10, 3, 59), 60, ties)
        # 6 is of a group with 10; 59 is tied to 6 and no longer to 10.
        self.check(True, (6, 59, 10), 60, without)
        self.check(True, (59, 6, 10), 60, without)
        self.check(False, (6, 10, 59), 60, without)
        self.check(False, (6, 58, 10), 60, without)

    def test_of_webs_of_one_and_two_places(self):
        self.check(False, (0, 0, 0), 1, [])
        self.check(False, (0, 1, 2), 1, [])
        self.check(False, (0, 1, 1), 2, [(0, 1)])


if __name__ == "__main__":
    unittest.main()
