"""The ties of a web that has the most, of every number of places."""

import inspect
import unittest

from helping import VAST, all_ties, has_crowd, most_by_places, parting_of
from surecrowd import counting
from surecrowd.counting import fullest, most


def counts_of(places):
    counts = {1, 2, 3, 4, 7, places // 2, places - 1, places, places + 1, 2 * places, VAST}
    return sorted(many for many in counts if many >= 1)


class TestFullest(unittest.TestCase):
    def test_stands_in_its_file_with_its_arguments(self):
        self.assertEqual(fullest.__module__, "surecrowd.counting")
        self.assertEqual(list(inspect.signature(counting.fullest).parameters), ["places", "many"])
        self.assertEqual(fullest(places=2, many=2), [(0, 1)])

    def test_pairs_of_places_none_twice(self):
        for places in range(1, 61):
            for many in counts_of(places):
                with self.subTest(places=places, many=many):
                    ties = fullest(places, many)
                    self.assertIs(type(ties), list)
                    for tie in ties:
                        self.assertIs(type(tie), tuple)
                        self.assertEqual([type(place) for place in tie], [int, int])
                        self.assertTrue(0 <= tie[0] < tie[1] < places)
                    self.assertEqual(len(set(ties)), len(ties))

    def test_as_many_as_the_most(self):
        for places in range(1, 61):
            for many in counts_of(places):
                with self.subTest(places=places, many=many):
                    ties = fullest(places, many)
                    self.assertEqual(len(ties), most(places, many))
                    self.assertEqual(len(ties), most_by_places(places, many))

    def test_parted_by_groups_alike_or_one_apart(self):
        for places in range(1, 61):
            for many in counts_of(places):
                with self.subTest(places=places, many=many):
                    groups = parting_of(places, fullest(places, many))
                    self.assertEqual(len(groups), min(places, many))
                    sizes = [len(group) for group in groups]
                    self.assertLessEqual(max(sizes) - min(sizes), 1)

    def test_no_crowd_of_one_more_than_the_count(self):
        for places in range(1, 8):
            for many in range(1, places + 2):
                with self.subTest(places=places, many=many):
                    self.assertIs(has_crowd(places, fullest(places, many), many + 1), False)

    def test_none_and_all_ties(self):
        for places in (1, 2, 3, 30, 60):
            with self.subTest(places=places):
                self.assertEqual(fullest(places, 1), [])
                for many in (places, places + 1, VAST):
                    self.assertEqual(sorted(fullest(places, many)), all_ties(places))

    def test_a_new_list_each_time(self):
        for places, many in ((1, 1), (2, 2), (5, 2), (60, 30)):
            with self.subTest(places=places, many=many):
                first = fullest(places, many)
                kept = list(first)
                first.reverse()
                first.append((7, 8))
                second = fullest(places, many)
                self.assertIsNot(second, first)
                self.assertEqual(second, kept)
                second.clear()
                self.assertEqual(fullest(places, many), kept)


if __name__ == "__main__":
    unittest.main()
