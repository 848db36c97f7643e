"""Every web of up to five places, with every list and grouping of its places, against the slow way."""

import unittest
from itertools import permutations, product

from helping import all_groupings, all_lists, all_webs, has_crowd, is_crowd, slow_most, ties_between
from surecrowd.answers import Crowd, Full, Parted, Spare, Three


def even(groups):
    sizes = [len(group) for group in groups]
    return max(sizes) - min(sizes) <= 1


class TestSmallWebs(unittest.TestCase):
    def check_count(self, places, ties, many, most, groupings):
        """All three answers of a web and a count; what they are is found without the program."""
        fewer = most - len(ties)
        for told in range(-2, most + 3):
            self.assertIs(Spare(told).shows(places, ties, many), told == fewer and told >= 1)
        fulls = []
        for groups in groupings:
            so = len(groups) == min(many, places) and even(groups) and ties_between(groups) == ties
            self.assertIs(Full(groups).shows(places, ties, many), so)
            fulls.extend([groups] if so else [])
        crowds = []
        for some in all_lists(places):
            so = len(some) == many + 1 and is_crowd(ties, some)
            self.assertIs(Crowd(some).shows(places, ties, many), so)
            crowds.extend([some] if so else [])
        # Of the three things of [3] one can be told, never two.
        if fulls:
            self.assertEqual(fewer, 0)
            self.assertEqual(crowds, [])
        elif fewer < 1:
            self.assertNotEqual(crowds, [])

    def test_every_web_and_count(self):
        for places in range(1, 5):
            groupings = list(all_groupings(places))
            for many in range(1, places + 3):
                most = slow_most(places, many)
                for ties in all_webs(places):
                    with self.subTest(places=places, ties=ties, many=many):
                        self.check_count(places, ties, many, most, groupings)

    def test_every_web_of_five_places_with_a_count_of_two_or_three(self):
        groupings = [groups for groups in all_groupings(5) if len(groups) in (2, 3)]
        for many in (2, 3):
            most = slow_most(5, many)
            for ties in all_webs(5):
                with self.subTest(ties=ties, many=many):
                    self.check_count(5, ties, many, most, groupings)

    def test_no_other_web_than_a_full_one_has_the_most_ties_and_no_crowd(self):
        for places, many in product(range(1, 5), range(1, 6)):
            most = slow_most(places, many)
            for ties in all_webs(places):
                with self.subTest(places=places, ties=ties, many=many):
                    full = any(Full(groups).shows(places, ties, many) for groups in all_groupings(places))
                    self.assertIs(full, len(ties) == most and not has_crowd(places, ties, many + 1))

    def test_groups_of_every_web(self):
        for places in range(1, 6):
            groupings = list(all_groupings(places))
            for ties in all_webs(places):
                with self.subTest(places=places, ties=ties):
                    found = 0
                    for groups in groupings:
                        so = ties_between(groups) == ties
                        self.assertIs(Parted(groups).shows(places, ties), so)
                        found += so
                    three = self.check_threes(places, ties)
                    self.assertEqual(bool(found), not three)

    def check_threes(self, places, ties):
        """Whether there are three places that no groups can part."""
        found = False
        for one, other, third in permutations(range(places), 3):
            so = is_crowd(ties, sorted([one, other]))
            so = so and not any(is_crowd(ties, sorted([third, place])) for place in (one, other))
            self.assertIs(Three(one, other, third).shows(places, ties), so)
            found = found or so
        return found

    def test_every_three_numbers_alike_or_beyond_the_web(self):
        for places in range(1, 4):
            for ties in all_webs(places):
                for trio in product(range(-2, places + 2), repeat=3):
                    if len(set(trio)) == 3 and min(trio) >= 0 and max(trio) < places:
                        continue
                    with self.subTest(places=places, ties=ties, trio=trio):
                        self.assertIs(Three(*trio).shows(places, ties), False)


if __name__ == "__main__":
    unittest.main()
