"""Crowd, Full and Spare by hand, over webs of few and of many places."""

import random
import unittest

from helping import MOST, VAST, all_ties, even_groups, rows_of, ties_between
from surecrowd.answers import Crowd, Full, Spare


class TestCrowd(unittest.TestCase):
    def check(self, so, some, places, ties, many):
        self.assertIs(Crowd(some).shows(places, ties, many), so)

    def test_of_few_places(self):
        ties = [(1, 2), (0, 3), (0, 1), (2, 3), (0, 2)]
        self.check(True, [0, 1, 2], 4, ties, 2)
        self.check(True, [0, 2, 3], 4, ties, 2)
        self.check(False, [0, 1, 3], 4, ties, 2)
        self.check(False, [1, 2, 3], 4, ties, 2)

    def test_of_one_fewer_or_more_than_asked(self):
        ties = all_ties(6)
        for many in range(1, 6):
            for length in range(7):
                with self.subTest(many=many, length=length):
                    self.check(length == many + 1, list(range(length)), 6, ties, many)

    def test_of_one_place_and_of_none(self):
        for many in (1, 2, 3, VAST):
            for some in ([], [0], [4]):
                with self.subTest(many=many, some=some):
                    self.check(False, some, 5, all_ties(5), many)

    def test_that_does_not_rise(self):
        ties = all_ties(6)
        self.check(True, [1, 3, 4], 6, ties, 2)
        for some in ([4, 3, 1], [3, 1, 4], [1, 4, 3]):
            with self.subTest(some=some):
                self.check(False, some, 6, ties, 2)

    def test_with_a_place_twice(self):
        ties = all_ties(6)
        for some in ([1, 1, 3], [1, 3, 3], [3, 3, 3], [1, 3, 1]):
            with self.subTest(some=some):
                self.check(False, some, 6, ties, 2)
        self.check(False, [2, 2], 6, ties, 1)

    def test_with_places_beyond_the_web_or_below_0(self):
        ties = all_ties(4)
        for some in ([-1, 0, 1], [2, 3, 4], [-3, -2, -1], [0, 1, VAST], [-VAST, 0, 1], [8, 9, 10]):
            with self.subTest(some=some):
                self.check(False, some, 4, ties, 2)

    def test_of_a_web_without_ties(self):
        for places in (1, 2, 60):
            self.check(False, [0, 1], places, [], 1)
            self.check(False, [0], places, [], 1)

    def test_of_the_whole_web_of_60_places(self):
        some = list(range(60))
        ties = all_ties(60)
        self.check(True, some, 60, ties, 59)
        self.check(False, some, 60, ties, 58)
        self.check(False, some, 60, ties, 60)
        self.check(False, some, 60, ties, VAST)
        for gone in ((0, 1), (0, 59), (30, 41), (58, 59)):
            with self.subTest(gone=gone):
                self.check(False, some, 60, [tie for tie in ties if tie != gone], 59)

    def test_one_is_shown_where_another_answer_is_told(self):
        # Three ties fewer than the most, and still a crowd of one more than the count.
        ties = [(0, 1), (0, 2), (1, 2)]
        self.check(True, [0, 1, 2], 5, ties, 2)
        self.assertIs(Spare(3).shows(5, ties, 2), True)

    def test_ties_in_any_turn(self):
        ties = all_ties(20)
        for seed in range(5):
            random.Random(seed).shuffle(ties)
            self.check(True, [0, 7, 11, 19], 20, ties, 3)
            self.check(False, [0, 7, 11, 19], 20, [tie for tie in ties if tie != (7, 19)], 3)


class TestSpare(unittest.TestCase):
    def test_most_less_none(self):
        for places, many, most in MOST:
            for told in (most - 1, most, most + 1, 0, -1, -most):
                with self.subTest(places=places, many=many, told=told):
                    so = told == most and told >= 1
                    self.assertIs(Spare(told).shows(places, [], many), so)

    def test_most_less_some(self):
        for places, many, most in MOST:
            ties = all_ties(places)
            random.Random(places).shuffle(ties)
            for had in {1, most // 2, most - 1, most, most + 1, len(ties)}:
                if not 0 <= had <= len(ties):
                    continue
                for told in (most - had - 1, most - had, most - had + 1):
                    with self.subTest(places=places, many=many, had=had, told=told):
                        so = told == most - had and told >= 1
                        self.assertIs(Spare(told).shows(places, ties[:had], many), so)

    def test_none_and_below_0_are_never_so(self):
        ties = [(0, 1), (0, 2), (1, 2)]
        self.assertIs(Spare(0).shows(3, ties[:2], 2), False)
        self.assertIs(Spare(-1).shows(3, ties, 2), False)
        self.assertIs(Spare(0).shows(3, ties, 3), False)
        self.assertIs(Spare(0).shows(1, [], 1), False)

    def test_numbers_of_any_size(self):
        self.assertIs(Spare(VAST).shows(60, [], 3), False)
        self.assertIs(Spare(-VAST).shows(60, [], VAST), False)
        self.assertIs(Spare(1770).shows(60, [], VAST), True)

    def test_every_count_of_60_places_by_the_groups_of_a_full_web(self):
        for many in range(1, 63):
            most = len(ties_between(even_groups(60, many)))
            with self.subTest(many=many):
                self.assertIs(Spare(most).shows(60, [], many), most >= 1)
                self.assertIs(Spare(most + 1).shows(60, [], many), False)


class TestFull(unittest.TestCase):
    def check(self, so, groups, places, ties, many):
        self.assertIs(Full(groups).shows(places, ties, many), so)

    def test_every_number_of_places(self):
        for places in range(1, 61):
            for many in (1, 2, 3, 4, 7, places - 1, places, places + 1, places + 30, VAST):
                if many < 1:
                    continue
                with self.subTest(places=places, many=many):
                    groups = even_groups(places, many)
                    ties = ties_between(groups)
                    self.check(True, groups, places, ties, many)
                    self.check(True, groups[::-1], places, ties, many)
                    if ties:
                        self.check(False, groups, places, ties[1:], many)

    def test_no_count_but_its_own_for_groups_fewer_than_the_places(self):
        groups = even_groups(12, 5)
        ties = ties_between(groups)
        for many in list(range(1, 15)) + [60, 61, VAST]:
            with self.subTest(many=many):
                self.check(many == 5, groups, 12, ties, many)

    def test_all_ties_are_full_for_a_count_of_the_places_or_more(self):
        for places in (1, 2, 9, 60):
            alone = [[place] for place in range(places)]
            for many in (places, places + 1, 2 * places, VAST):
                with self.subTest(places=places, many=many):
                    self.check(True, alone, places, all_ties(places), many)
            for many in {1, places - 1} - {0, places}:
                with self.subTest(places=places, many=many):
                    self.check(False, alone, places, all_ties(places), many)

    def test_no_ties_are_full_for_a_count_of_one(self):
        for places in (1, 2, 9, 60):
            with self.subTest(places=places):
                self.check(True, [list(range(places))], places, [], 1)
                self.check(places == 1, [list(range(places))], places, [], 2)
                self.check(places == 1, [[place] for place in range(places)], places, [], 1)

    def test_groups_that_part_but_are_two_apart_in_size(self):
        for sizes in ((1, 3), (3, 1), (2, 4, 3), (1, 1, 3), (5, 5, 7), (1, 59), (29, 31), (20, 19, 21)):
            with self.subTest(sizes=sizes):
                groups = rows_of(sizes)
                self.check(False, groups, sum(sizes), ties_between(groups), len(sizes))

    def test_groups_alike_or_one_apart_in_any_turn_of_sizes(self):
        for sizes in ((2, 2), (2, 3), (3, 2), (2, 1, 2), (1, 2, 1, 2), (30, 30), (20, 20, 20), (14, 15, 15, 15)):
            with self.subTest(sizes=sizes):
                groups = rows_of(sizes)
                self.check(True, groups, sum(sizes), ties_between(groups), len(sizes))

    def test_even_groups_of_another_web(self):
        ties = ties_between([[0, 1], [2, 3]])
        self.check(False, [[0, 2], [1, 3]], 4, ties, 2)
        self.check(False, [[0, 1], [2, 3]], 4, ties[:-1], 2)
        self.check(False, [[0, 1], [2, 3]], 4, ties + [(0, 1)], 2)
        # As many ties as the most, one of them moved.
        self.check(False, [[0, 1], [2, 3]], 4, ties[:-1] + [(2, 3)], 2)

    def test_spoiled_groups(self):
        groups = [[0, 3], [1, 4], [2, 5]]
        ties = ties_between(groups)
        self.check(True, groups, 6, ties, 3)
        spoiled = (
            [], [[]], [[], [], []], [[0, 3], [1, 4]], [[0, 3], [1, 4], [2]], [[0, 3], [1, 4], [2, 5], []],
            [[], [0, 3], [1, 4], [2, 5]], [[0, 3], [1, 4], [2, 5], [2, 5]], [[0, 3], [1, 4], [2, 2, 5]],
            [[0, 3], [1, 4], [2, 5, 5]], [[0, 3], [1, 4], [0, 2, 5]], [[3, 0], [1, 4], [2, 5]],
            [[0, 3], [1, 4], [5, 2]], [[0, 4], [1, 3], [2, 5]], [[0, 3], [1, 4], [2, 6]],
            [[0, 3], [1, 4], [2, 5, 6]], [[0, 3], [1, 4], [2, 5], [6]], [[-1, 3], [1, 4], [2, 5]],
            [[-1, 0, 3], [1, 4], [2, 5]], [[0, 1, 2, 3, 4, 5]], [[0], [1], [2], [3], [4], [5]],
            [[0, 3, 4], [1], [2, 5]], [[0, 3], [1, 4, 2, 5]], [[0, 3], [1, 2, 4, 5]], [[0, 3], [1, 4], [-1, 2]],
        )
        for told in spoiled:
            with self.subTest(told=told):
                self.check(False, told, 6, ties, 3)

    def test_never_beside_spare_ties(self):
        for places in (4, 13, 60):
            for many in (2, 3, 5):
                groups = even_groups(places, many)
                ties = ties_between(groups)
                with self.subTest(places=places, many=many):
                    for told in (-1, 0, 1, len(ties)):
                        self.assertIs(Spare(told).shows(places, ties, many), False)
                    self.assertIs(Spare(1).shows(places, ties[1:], many), True)
                    self.check(False, groups, places, ties[1:], many)

    def test_ties_in_any_turn(self):
        groups = even_groups(60, 7)
        ties = ties_between(groups)
        for seed in range(5):
            random.Random(seed).shuffle(ties)
            random.Random(seed).shuffle(groups)
            self.check(True, groups, 60, ties, 7)
            self.check(False, groups, 60, ties[1:], 7)


if __name__ == "__main__":
    unittest.main()
