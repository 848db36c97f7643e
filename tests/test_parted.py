"""What is told of a web alone: groups that part it, or three places that bar them."""

import inspect
import unittest

from helping import (all_ties, all_webs, chance_of, changed_webs, even_groups, parting_of, renamed, rows_of,
                     some_sizes, ties_between, tried_webs)
from surecrowd import telling
from surecrowd.answers import Parted, Three
from surecrowd.counting import fullest
from surecrowd.telling import parted


class Checked(unittest.TestCase):
    def check(self, places, ties):
        """The one answer that is due, by what it holds and by its own word; it is given back."""
        handed = list(ties)
        answer = parted(places, handed)
        self.assertEqual(handed, ties)
        groups = parting_of(places, ties)
        if groups is None:
            self.assertIs(type(answer), Three)
            self.check_three(answer, places, set(ties))
        else:
            self.assertIs(type(answer), Parted)
            self.check_parted(answer, groups)
        self.assertIs(answer.shows(places, ties), True)
        return answer

    def check_parted(self, answer, groups):
        self.assertIs(type(answer.groups), list)
        for group in answer.groups:
            self.assertIs(type(group), list)
            self.assertEqual({type(place) for place in group}, {int})
        # Only one set of groups parts a web.
        self.assertEqual(sorted(answer.groups), sorted(groups))

    def check_three(self, answer, places, held):
        trio = [answer.one, answer.other, answer.third]
        self.assertEqual([type(place) for place in trio], [int, int, int])
        self.assertEqual(len(set(trio)), 3)
        self.assertTrue(0 <= min(trio) and max(trio) < places)
        self.assertIn(tuple(sorted(trio[:2])), held)
        for place in trio[:2]:
            self.assertNotIn((min(place, answer.third), max(place, answer.third)), held)


class TestParted(Checked):
    def test_stands_in_its_file_with_its_arguments(self):
        self.assertEqual(parted.__module__, "surecrowd.telling")
        self.assertEqual(list(inspect.signature(telling.parted).parameters), ["places", "ties"])
        self.assertEqual(parted(places=1, ties=[]).groups, [[0]])

    def test_by_hand(self):
        self.assertEqual(sorted(parted(4, [(0, 1), (1, 2), (2, 3), (0, 3)]).groups), [[0, 2], [1, 3]])
        self.assertEqual(sorted(parted(4, [(0, 3), (1, 3), (2, 3)]).groups), [[0, 1, 2], [3]])
        answer = parted(3, [(1, 2)])
        self.assertEqual((sorted([answer.one, answer.other]), answer.third), ([1, 2], 0))
        answer = parted(4, [(0, 1), (0, 2), (0, 3), (2, 3)])
        self.assertEqual((sorted([answer.one, answer.other]), answer.third), ([2, 3], 1))

    def test_every_web_of_up_to_five_places(self):
        for places in range(1, 6):
            for ties in all_webs(places):
                with self.subTest(places=places, ties=ties):
                    self.check(places, ties)

    def test_webs_of_every_number_of_places(self):
        for places in range(1, 61):
            for seed in (places, places + 100):
                for ties in tried_webs(places, chance_of(seed)):
                    with self.subTest(places=places, ties=ties):
                        self.check(places, ties)

    def test_no_ties_and_all_ties(self):
        for places in range(1, 61):
            with self.subTest(places=places):
                self.assertEqual(self.check(places, []).groups, [list(range(places))])
                ties = renamed(places, all_ties(places), chance_of(places))
                self.assertEqual(sorted(self.check(places, ties).groups), [[place] for place in range(places)])

    def test_groups_alike_and_not(self):
        for places in range(2, 61):
            chance = chance_of(places)
            for sizes in [some_sizes(places, chance) for _ in range(4)]:
                with self.subTest(sizes=sizes):
                    ties = renamed(places, ties_between(rows_of(sizes)), chance)
                    answer = self.check(places, ties)
                    self.assertEqual(sorted(map(len, answer.groups)), sorted(sizes))

    def test_fullest_webs(self):
        for places in (1, 2, 3, 7, 30, 59, 60):
            for many in (1, 2, 3, 30, 60, 10 ** 40):
                with self.subTest(places=places, many=many):
                    answer = self.check(places, fullest(places, many))
                    self.assertEqual(len(answer.groups), min(places, many))

    def test_one_tie_alone_is_barred_by_any_third_place(self):
        for tie in ((0, 1), (0, 59), (30, 31), (58, 59)):
            with self.subTest(tie=tie):
                answer = self.check(60, [tie])
                self.assertEqual({answer.one, answer.other}, set(tie))
        self.assertIs(type(self.check(2, [(0, 1)])), Parted)

    def test_one_place_alone_beside_ties(self):
        for alone in (0, 1, 30, 59):
            ties = [pair for pair in all_ties(60) if alone not in pair]
            with self.subTest(alone=alone):
                self.assertEqual(self.check(60, ties).third, alone)

    def test_just_one_three_bars_the_groups(self):
        # One tie within a group of three: its two places and the third alone.
        groups = [[0, 20, 59], [1, 2], [place for place in range(3, 59) if place != 20]]
        ties = ties_between(groups)
        self.assertIs(type(self.check(60, ties)), Parted)
        for tie, third in (((0, 20), 59), ((0, 59), 20), ((20, 59), 0)):
            with self.subTest(tie=tie):
                answer = self.check(60, ties + [tie])
                self.assertEqual((sorted([answer.one, answer.other]), answer.third), (list(tie), third))

    def test_shows_of_other_webs(self):
        for places in (2, 3, 7, 30, 60):
            chance = chance_of(places)
            for ties in tried_webs(places, chance):
                answer = parted(places, ties)
                for other in list(changed_webs(places, ties, chance)) + [[], all_ties(places)]:
                    with self.subTest(places=places, ties=ties, other=other):
                        self.assertIs(answer.shows(places, other), self.is_so(answer, other))

    def is_so(self, answer, ties):
        if type(answer) is Parted:
            return ties_between(answer.groups) == sorted(ties)
        one, other, third = answer.one, answer.other, answer.third
        tied = [tuple(sorted(pair)) in ties for pair in ((one, other), (one, third), (other, third))]
        return tied == [True, False, False]

    def test_the_same_in_any_turn_of_the_ties(self):
        for places in (5, 30, 60):
            ties = ties_between(even_groups(places, 4))
            for web in [ties] + list(changed_webs(places, ties, chance_of(places))):
                name = type(parted(places, web))
                for seed in range(4):
                    turned = list(web)
                    chance_of(seed).shuffle(turned)
                    with self.subTest(places=places, seed=seed):
                        self.assertIs(type(self.check(places, turned)), name)


if __name__ == "__main__":
    unittest.main()
