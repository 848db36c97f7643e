"""What each door refuses, with which class, and which goes first."""

import unittest

from surecrowd.answers import Answer
from surecrowd.counting import fullest, most
from surecrowd.errors import BadMany, BadPlaces, BadTies, CrowdError
from surecrowd.telling import parted, told

HUGE = 10 ** 5000

NO_NUMBERS = (None, "", "3", "three", True, False, 3.0, 2.5, 3j, b"3", [], [3], (), (3,), {}, {3: 3}, {3}, range(3),
              object(), int, len, Answer())
NONE_FROM_ONE = NO_NUMBERS + (0, -1, -3, -60, -HUGE)
ABOVE = (61, 62, 100, 2 ** 64, HUGE)

# Of a web of five places.
NO_LISTS = (None, (), ((0, 1),), ((0, 1), (1, 2)), "", "01", b"", 0, 1, -1, True, False, 1.5, {}, {(0, 1): True},
            {0: 1}, set(), {(0, 1)}, range(0), iter([]), iter([(0, 1)]), object(), list, Answer())
NO_TIES = (None, [], [0, 1], "", "01", "ab", b"ab", 0, 1, True, 1.5, {}, {0: 1, 1: 2}, {0, 1}, range(2), object(),
           (), (0,), (1,), (0, 1, 2), (0, 1, 1), (0, 1, None),
           (1, 0), (4, 3), (4, 0), (0, 0), (2, 2), (4, 4), (5, 5), (-1, -1),
           (0, 5), (4, 5), (5, 6), (0, 60), (0, HUGE), (HUGE, HUGE + 1), (-1, 0), (-1, 2), (-2, -1), (-HUGE, 1),
           ("0", "1"), (0, "1"), ("0", 1), (None, 1), (0, None), (None, None), (0, True), (False, 1), (True, 2),
           (False, True), (0.0, 1), (0, 1.0), (0, 2.5), ((0, 1), 2), (0, (1, 2)), ((0, 1), (1, 2)), ((0,), (1,)),
           ([0], 1), (0, [1]), ([0], [1]), ({}, 1), (0, {}), ({0}, {1}), (b"0", 1), (0, b"1"), (object(), 1), ((0, 1),))
GOOD = [(0, 3), (1, 2), (0, 1), (3, 4)]


class Refused(unittest.TestCase):
    def check(self, refusal, door, *handed):
        with self.assertRaises(CrowdError) as held:
            door(*handed)
        self.assertIs(type(held.exception), refusal)
        self.assertIsInstance(held.exception, ValueError)


class TestPlaces(Refused):
    def test_no_whole_number_from_1_on(self):
        for at, places in enumerate(NONE_FROM_ONE):
            with self.subTest(at=at):
                self.check(BadPlaces, most, places, 2)
                self.check(BadPlaces, fullest, places, 2)
                self.check(BadPlaces, told, places, [], 2)
                self.check(BadPlaces, parted, places, [])

    def test_above_60_at_each_door_but_most(self):
        for places in ABOVE:
            with self.subTest(bits=places.bit_length()):
                self.check(BadPlaces, fullest, places, 2)
                self.check(BadPlaces, told, places, [], 2)
                self.check(BadPlaces, told, places, [(0, 60)], 2)
                self.check(BadPlaces, parted, places, [])
                self.check(BadPlaces, parted, places, [(0, 60)])
                self.assertEqual(most(places, 1), 0)

    def test_1_and_60_are_taken(self):
        for places in (1, 60):
            with self.subTest(places=places):
                self.assertEqual(most(places, 1), 0)
                self.assertEqual(fullest(places, 1), [])
                self.assertEqual(told(places, [], 1).groups, [list(range(places))])
                self.assertEqual(parted(places, []).groups, [list(range(places))])


class TestTies(Refused):
    def check_ties(self, places, ties):
        self.check(BadTies, told, places, ties, 2)
        self.check(BadTies, parted, places, ties)

    def test_no_list(self):
        for at, ties in enumerate(NO_LISTS):
            with self.subTest(at=at):
                self.check_ties(5, ties)

    def test_one_that_is_no_tie_alone(self):
        for at, tie in enumerate(NO_TIES):
            with self.subTest(at=at):
                self.check_ties(5, [tie])

    def test_one_that_is_no_tie_among_good_ones_at_any_place(self):
        for at, tie in enumerate(NO_TIES):
            for to in range(len(GOOD) + 1):
                with self.subTest(at=at, to=to):
                    self.check_ties(5, GOOD[:to] + [tie] + GOOD[to:])

    def test_several_that_are_no_ties(self):
        self.check_ties(5, list(NO_TIES))
        self.check_ties(5, [None, None])
        self.check_ties(5, [[0, 1], [0, 1]])

    def test_a_tie_twice_at_any_places(self):
        for tie in GOOD:
            self.check_ties(5, [tie, tie])
            for to in range(len(GOOD) + 1):
                with self.subTest(tie=tie, to=to):
                    self.check_ties(5, GOOD[:to] + [(tie[0], tie[1])] + GOOD[to:])
        self.check_ties(5, GOOD + GOOD)
        self.check_ties(2, [(0, 1), (0, 1), (0, 1)])

    def test_a_tie_in_both_turns_of_its_places(self):
        self.check_ties(5, [(0, 1), (1, 0)])
        self.check_ties(5, [(1, 0), (0, 1)])

    def test_places_beyond_webs_of_1_to_60_places(self):
        for places in range(1, 61):
            with self.subTest(places=places):
                self.check_ties(places, [(0, places)])
                self.check_ties(places, [(places - 1, places)])
                self.check_ties(places, [(places - 1, places - 1)])
                self.check_ties(places, [(-1, places - 1)])
                if places > 1:
                    self.assertEqual(told(places, [(places - 2, places - 1)], 1).some, [places - 2, places - 1])
                    parted(places, [(0, places - 1)])

    def test_among_all_ties_of_60_places(self):
        ties = [(one, other) for other in range(60) for one in range(other)]
        for bad in ((59, 60), (59, 58), (0, 1), (True, 2), [0, 1], None):
            for to in (0, 1, 800, 1769, 1770):
                with self.subTest(bad=bad, to=to):
                    self.check_ties(60, ties[:to] + [bad] + ties[to:])

    def test_a_list_within_itself(self):
        ties = []
        ties.append(ties)
        self.check_ties(5, ties)

    def test_good_ties_are_taken(self):
        for ties in ([], GOOD, GOOD[::-1]):
            told(5, ties, 2)
            parted(5, ties)


class TestMany(Refused):
    def test_no_count(self):
        for at, many in enumerate(NONE_FROM_ONE):
            with self.subTest(at=at):
                self.check(BadMany, most, 5, many)
                self.check(BadMany, fullest, 5, many)
                self.check(BadMany, told, 5, GOOD, many)
                self.check(BadMany, told, 5, [], many)

    def test_no_count_of_one_place_and_of_60(self):
        for places in (1, 60):
            for many in (0, -1, True, None):
                with self.subTest(places=places, many=many):
                    self.check(BadMany, most, places, many)
                    self.check(BadMany, fullest, places, many)
                    self.check(BadMany, told, places, [], many)

    def test_any_size_is_taken(self):
        for many in (1, 60, 61, 2 ** 64, HUGE):
            with self.subTest(bits=many.bit_length()):
                most(60, many)
                fullest(60, many)
                told(60, [(0, 1)], many)


class TestWhichGoesFirst(Refused):
    def test_places_before_all(self):
        for places in (None, True, "5", 0, -1, [5]):
            for ties in (None, [None], [(0, 0)], GOOD):
                for many in (None, True, 0, 2):
                    with self.subTest(places=places, ties=ties, many=many):
                        self.check(BadPlaces, most, places, many)
                        self.check(BadPlaces, fullest, places, many)
                        self.check(BadPlaces, told, places, ties, many)
                        self.check(BadPlaces, parted, places, ties)

    def test_too_many_places_before_all(self):
        for ties in (None, [None], [(0, 0)], GOOD):
            for many in (None, True, 0, 2):
                with self.subTest(ties=ties, many=many):
                    self.check(BadPlaces, fullest, 61, many)
                    self.check(BadPlaces, told, 61, ties, many)
                    self.check(BadPlaces, parted, 61, ties)

    def test_ties_before_the_count(self):
        for ties in (None, (), [None], [(0, 0)], [(0, 1), (0, 1)], GOOD + [(0, 5)]):
            for many in (None, True, 0, -1, [2]):
                with self.subTest(ties=ties, many=many):
                    self.check(BadTies, told, 5, ties, many)

    def test_the_count_where_more_places_than_a_web_has_are_good(self):
        self.check(BadMany, most, 61, 0)
        self.check(BadMany, most, HUGE, None)


class TestNothingIsChanged(Refused):
    def test_what_is_refused_stays_as_it_was(self):
        for bad in ([0, 1], (1, 0), (0, 1), None):
            ties = GOOD + [bad]
            kept = list(ties)
            self.check(BadTies, told, 5, ties, 2)
            self.check(BadTies, parted, 5, ties)
            self.assertEqual(ties, kept)
            self.assertIs(ties[-1], bad)

    def test_a_refusal_leaves_nothing_behind(self):
        before = [vars(told(5, GOOD, 2)), vars(parted(5, GOOD)), most(5, 2), fullest(5, 2)]
        self.check(BadTies, told, 5, GOOD + GOOD, 2)
        self.check(BadMany, told, 5, GOOD, 0)
        self.check(BadPlaces, fullest, 61, 2)
        self.check(BadMany, most, 5, None)
        self.assertEqual([vars(told(5, GOOD, 2)), vars(parted(5, GOOD)), most(5, 2), fullest(5, 2)], before)


if __name__ == "__main__":
    unittest.main()
