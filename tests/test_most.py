"""The most ties: by hand, against all webs of few places, and of very many places."""

import inspect
import unittest

from helping import MOST, VAST, most_by_places, slow_most
from surecrowd import counting
from surecrowd.counting import most

# Far more places than could be gone through one by one.
HOSTS = (10 ** 20, 10 ** 20 + 1, 10 ** 30 + 7, 3 * 10 ** 40 - 1, 2 ** 200 + 12345)


def by_one_sum(places, many):
    """The most ties without a look at groups: a share of the square, less what the rest of the division takes."""
    rest = places % many
    return ((many - 1) * places ** 2 - rest * (many - rest)) // (2 * many)


class TestMost(unittest.TestCase):
    def check(self, places, many, ties):
        told = most(places, many)
        self.assertEqual(told, ties)
        self.assertIs(type(told), int)

    def test_stands_in_its_file_with_its_arguments(self):
        self.assertEqual(most.__module__, "surecrowd.counting")
        self.assertEqual(list(inspect.signature(counting.most).parameters), ["places", "many"])
        self.assertEqual(most(places=5, many=2), 6)

    def test_by_hand(self):
        for places, many, ties in MOST:
            with self.subTest(places=places, many=many):
                self.check(places, many, ties)

    def test_against_all_webs_of_few_places(self):
        for places in range(1, 6):
            for many in range(1, places + 3):
                with self.subTest(places=places, many=many):
                    self.check(places, many, slow_most(places, many))

    def test_every_count_of_few_and_some_places(self):
        for places in range(1, 90):
            for many in list(range(1, places + 4)) + [VAST]:
                with self.subTest(places=places, many=many):
                    self.check(places, many, most_by_places(places, many))

    def test_more_places_than_a_web_may_have(self):
        for places, many, ties in ((61, 1, 0), (61, 2, 930), (61, 60, 1829), (61, 61, 1830), (61, 62, 1830),
                                   (1000, 2, 250000), (1000, 3, 333333), (1001, 1000, 500499)):
            with self.subTest(places=places, many=many):
                self.check(places, many, ties)

    def test_very_many_places_by_hand(self):
        self.check(10 ** 50, 1, 0)
        self.check(10 ** 50, 2, 25 * 10 ** 98)
        self.check(10 ** 50 + 1, 2, 25 * 10 ** 98 + 5 * 10 ** 49)
        self.check(3 * 10 ** 40, 3, 3 * 10 ** 80)
        # Two places of one group, all others alone: all pairs are tied but one.
        self.check(10 ** 50, 10 ** 50 - 1, 10 ** 50 * (10 ** 50 - 1) // 2 - 1)
        for many in (10 ** 50, 10 ** 50 + 1, 10 ** 51, VAST):
            with self.subTest(many=many):
                self.check(10 ** 50, many, 10 ** 50 * (10 ** 50 - 1) // 2)

    def test_very_many_places_by_another_sum(self):
        for places in HOSTS:
            for many in (1, 2, 3, 7, 60, 10 ** 6 + 3, places // 3, places // 2, places - 1, places, places + 1, VAST):
                with self.subTest(places=places, many=many):
                    self.check(places, many, by_one_sum(places, many))

    def test_never_fewer_by_a_place_more_or_by_a_count_more(self):
        for at in (1, 2, 5, 30, 59, 60) + HOSTS:
            for many in (1, 2, 3, 29, 30, 59, 60, 61, at // 2 + 1, at, at + 1, VAST):
                with self.subTest(places=at, many=many):
                    self.assertLessEqual(most(at, many), most(at + 1, many))
                    self.assertLessEqual(most(at, many), most(at, many + 1))

    def test_a_count_more_has_more_up_to_the_places(self):
        for places in range(1, 30):
            for many in range(1, places + 5):
                with self.subTest(places=places, many=many):
                    self.assertIs(most(places, many) < most(places, many + 1), many < places)

    def test_a_whole_number_where_none_and_one_are_told(self):
        for places, many, ties in ((1, 1, 0), (1, VAST, 0), (60, 1, 0), (10 ** 50, 1, 0), (2, 2, 1), (2, VAST, 1)):
            with self.subTest(places=places, many=many):
                self.check(places, many, ties)

    def test_told_again(self):
        self.assertEqual([most(60, 7) for _ in range(3)], [1542] * 3)


if __name__ == "__main__":
    unittest.main()
