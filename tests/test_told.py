"""What is told of a web and a count, over webs of 1 to 60 places."""

import inspect
import unittest
from itertools import combinations

from helping import (VAST, all_ties, all_webs, chance_of, changed_webs, due, even_groups, most_by_places, renamed,
                     rows_of, ties_between, tried_counts, tried_webs, untied_of)
from surecrowd import telling
from surecrowd.answers import Crowd, Full, Spare
from surecrowd.counting import fullest, most
from surecrowd.telling import told

COUNTED = {"Spare": Spare, "Full": Full, "Crowd": Crowd}


class Checked(unittest.TestCase):
    def check(self, places, ties, many):
        """The one answer that is due, by what it holds and by its own word; it is given back."""
        handed = list(ties)
        answer = told(places, handed, many)
        self.assertEqual(handed, ties)
        name = due(places, ties, many)
        self.assertIs(type(answer), COUNTED[name])
        if name == "Spare":
            self.check_spare(answer, places, ties, many)
        elif name == "Full":
            self.check_full(answer, places, ties, many)
        else:
            self.check_crowd(answer, ties, many)
        self.assertIs(answer.shows(places, ties, many), True)
        return answer

    def check_spare(self, answer, places, ties, many):
        self.assertIs(type(answer.ties), int)
        self.assertGreaterEqual(answer.ties, 1)
        self.assertEqual(answer.ties, most_by_places(places, many) - len(ties))

    def check_full(self, answer, places, ties, many):
        self.assertIs(type(answer.groups), list)
        for group in answer.groups:
            self.assertIs(type(group), list)
            self.assertEqual({type(place) for place in group}, {int})
            self.assertEqual(group, sorted(group))
        held = sorted(place for group in answer.groups for place in group)
        self.assertEqual(held, list(range(places)))
        self.assertEqual(len(answer.groups), min(places, many))
        sizes = [len(group) for group in answer.groups]
        self.assertLessEqual(max(sizes) - min(sizes), 1)
        self.assertEqual(ties_between(answer.groups), sorted(ties))

    def check_crowd(self, answer, ties, many):
        some, held = answer.some, set(ties)
        self.assertIs(type(some), list)
        self.assertEqual(len(some), many + 1)
        self.assertEqual({type(place) for place in some}, {int})
        self.assertEqual(some, sorted(set(some)))
        for at, one in enumerate(some):
            for other in some[at + 1:]:
                self.assertIn((one, other), held)


class TestTold(Checked):
    def test_stands_in_its_file_with_its_arguments(self):
        self.assertEqual(told.__module__, "surecrowd.telling")
        self.assertEqual(list(inspect.signature(telling.told).parameters), ["places", "ties", "many"])
        self.assertEqual(told(places=3, ties=[], many=2).ties, 2)

    def test_by_hand(self):
        round_of_four = [(0, 1), (1, 2), (2, 3), (0, 3)]
        self.assertEqual(told(4, round_of_four, 1).some[1:], [1])
        self.assertEqual(sorted(told(4, round_of_four, 2).groups), [[0, 2], [1, 3]])
        self.assertEqual(told(4, round_of_four, 3).ties, 1)
        self.assertEqual(told(4, round_of_four, 4).ties, 2)
        # As many ties as the most, but a crowd and a place beside it.
        self.assertEqual(told(4, [(1, 2), (1, 3), (2, 3), (0, 3)], 2).some, [1, 2, 3])

    def test_every_web_of_up_to_five_places_and_every_count(self):
        for places in range(1, 6):
            for ties in all_webs(places):
                for many in range(1, places + 3):
                    with self.subTest(places=places, ties=ties, many=many):
                        self.check(places, ties, many)

    def test_every_web_of_six_places_with_just_the_most_ties(self):
        # Among them webs in which each place has as many ties as in a full one, as two crowds of three joined by pairs.
        for many in range(1, 6):
            for ties in combinations(all_ties(6), most_by_places(6, many)):
                with self.subTest(ties=ties, many=many):
                    self.check(6, list(ties), many)

    def test_webs_of_every_number_of_places(self):
        for places in range(1, 61):
            for ties in tried_webs(places, chance_of(places)):
                for many in tried_counts(places):
                    with self.subTest(places=places, ties=ties, many=many):
                        self.check(places, ties, many)

    def test_one_place(self):
        for many in (1, 2, 60, VAST):
            with self.subTest(many=many):
                self.assertEqual(self.check(1, [], many).groups, [[0]])

    def test_no_ties(self):
        for places in (2, 3, 31, 60):
            with self.subTest(places=places):
                self.assertEqual(self.check(places, [], 1).groups, [list(range(places))])
                for many in (2, places, VAST):
                    self.assertEqual(self.check(places, [], many).ties, most_by_places(places, many))

    def test_all_ties(self):
        for places in (2, 3, 31, 60):
            ties = renamed(places, all_ties(places), chance_of(places))
            for many in list(range(1, places + 2)) + [VAST]:
                with self.subTest(places=places, many=many):
                    answer = self.check(places, ties, many)
                    self.assertIs(type(answer), Crowd if many < places else Full)

    def test_a_count_of_one_bars_any_tie(self):
        for places in (2, 5, 60):
            chance = chance_of(places)
            for tie in [(0, 1), (places - 2, places - 1), (0, places - 1)]:
                with self.subTest(places=places, tie=tie):
                    self.assertEqual(self.check(places, [tie], 1).some, list(tie))
            some = chance.sample(all_ties(places), (places + 1) // 2)
            self.assertIn(tuple(self.check(places, some, 1).some), some)

    def test_uneven_groups(self):
        for sizes in ((1, 3), (2, 4), (1, 59), (29, 31), (10, 20, 30), (1, 1, 58), (7, 7, 9), (4, 6, 5, 5)):
            places = sum(sizes)
            ties = renamed(places, ties_between(rows_of(sizes)), chance_of(places))
            for many in tried_counts(places) + [len(sizes), len(sizes) + 1]:
                with self.subTest(sizes=sizes, many=many):
                    self.check(places, ties, many)
            self.assertIs(type(told(places, ties, len(sizes))), Spare)

    def test_few_ties_by_number_and_a_great_crowd_are_spare(self):
        # A crowd of ten and fifty places alone: there are crowds, and spare ties are told.
        for many in (2, 5, 9, 10):
            with self.subTest(many=many):
                self.assertEqual(self.check(60, all_ties(10), many).ties, most(60, many) - 45)


class TestFullestChanged(Checked):
    def test_a_fullest_web_is_full(self):
        for places in range(1, 61):
            for many in tried_counts(places):
                with self.subTest(places=places, many=many):
                    ties = renamed(places, fullest(places, many), chance_of(places))
                    self.assertIs(type(self.check(places, ties, many)), Full)

    def test_one_tie_fewer_is_one_spare(self):
        for places in range(2, 61):
            for many in tried_counts(places)[1:]:
                with self.subTest(places=places, many=many):
                    ties = renamed(places, fullest(places, many), chance_of(places))[1:]
                    self.assertEqual(self.check(places, ties, many).ties, 1)

    def test_one_tie_more_makes_a_crowd(self):
        for places in range(2, 61):
            for many in tried_counts(places):
                if many >= places:
                    continue
                with self.subTest(places=places, many=many):
                    chance = chance_of(places)
                    ties = renamed(places, fullest(places, many), chance)
                    ties.append(chance.choice(untied_of(places, ties)))
                    self.assertIs(type(self.check(places, ties, many)), Crowd)

    def test_one_tie_exchanged_makes_a_crowd(self):
        for places in range(4, 61):
            for many in tried_counts(places)[1:]:
                # Below, an exchange may rename two places only, and the web is full again.
                if many >= places - 1 or places < 2 * many:
                    continue
                with self.subTest(places=places, many=many):
                    chance = chance_of(places)
                    ties = renamed(places, fullest(places, many), chance)
                    exchanged = list(changed_webs(places, ties, chance))[-1]
                    self.assertEqual(len(exchanged), len(ties))
                    self.assertIs(type(self.check(places, exchanged, many)), Crowd)

    def test_several_ties_exchanged(self):
        for places in (7, 12, 30, 59, 60):
            for many in (2, 3, 5, places // 2, places - 2):
                chance = chance_of(places * 100 + many)
                ties = renamed(places, fullest(places, many), chance)
                for _ in range(6):
                    ties = list(changed_webs(places, ties, chance))[-1]
                    with self.subTest(places=places, many=many, ties=ties):
                        self.check(places, ties, many)

    def test_an_exchange_that_leaves_the_web_full(self):
        # Three places in a row, whichever is in the middle, are the fullest web without a crowd of three.
        for ties, groups in (([(0, 1), (1, 2)], [[0, 2], [1]]), ([(0, 1), (0, 2)], [[0], [1, 2]]),
                             ([(0, 2), (1, 2)], [[0, 1], [2]])):
            with self.subTest(ties=ties):
                self.assertEqual(sorted(self.check(3, ties, 2).groups), groups)


class TestCrowdsAlways(Checked):
    """Where a crowd is due there is one: webs with just the most ties, or a few more, wherever these lie."""

    def test_many_ties_wherever_they_lie(self):
        for places in (6, 11, 25, 60):
            pairs = all_ties(places)
            for many in range(1, places):
                chance = chance_of(places * 100 + many)
                for more in (0, 1, 3):
                    ties = chance.sample(pairs, min(len(pairs), most_by_places(places, many) + more))
                    with self.subTest(places=places, many=many, more=more, ties=ties):
                        self.check(places, ties, many)

    def test_a_count_of_half_as_many_as_places(self):
        pairs = all_ties(60)
        for seed in range(60):
            chance = chance_of(seed)
            ties = chance.sample(pairs, 1740 + seed % 4)
            with self.subTest(seed=seed):
                self.assertIs(type(self.check(60, ties, 30)), Crowd)

    def test_pairs_left_untied_in_rows_and_rounds(self):
        # As many pairs left untied as a full web leaves, and not in groups: in a row, a round, or at one place.
        for untied in ([(at, at + 1) for at in range(30)], [(0, at) for at in range(1, 31)],
                       [(29, at) for at in range(30, 60)],
                       [(at, at + 1) for at in range(29)] + [(0, 29)],
                       [(3 * at, 3 * at + 1) for at in range(15)] + [(3 * at, 3 * at + 2) for at in range(15)]):
            with self.subTest(untied=untied):
                self.assertEqual(len(set(untied)), 30)
                ties = [pair for pair in all_ties(60) if pair not in untied]
                self.assertIs(type(self.check(60, ties, 30)), Crowd)
                self.assertIs(type(self.check(60, renamed(60, ties, chance_of(5)), 30)), Crowd)

    def test_first_places_with_few_ties_lead_nowhere(self):
        # A place without a tie, or with one, stands before a great crowd.
        for alone in (1, 2, 5):
            ties = [pair for pair in all_ties(60) if pair[0] >= alone] + [(at, 59) for at in range(alone)]
            for many in (2, 5, 9, 30, 60 - alone - 1):
                with self.subTest(alone=alone, many=many):
                    self.check(60, ties, many)

    def test_two_great_crowds_beside_each_other(self):
        # Few ties for the count of places each has, but more than the most for a count of few.
        ties = all_ties(30) + [(one + 30, other + 30) for one, other in all_ties(30)]
        for many in (1, 2, 3, 29):
            with self.subTest(many=many):
                self.check(60, ties, many)
        crowd = [pair for pair in all_ties(60) if pair[1] < 43]
        for many in (1, 2, 3):
            with self.subTest(crowd=43, many=many):
                self.check(60, crowd, many)


class TestOneOfThree(Checked):
    def test_never_two(self):
        for places in (1, 2, 3, 4, 9, 20, 60):
            chance = chance_of(places)
            for ties in tried_webs(places, chance):
                for many in tried_counts(places):
                    with self.subTest(places=places, ties=ties, many=many):
                        answer = told(places, ties, many)
                        full = [Full(even_groups(places, many)), answer if type(answer) is Full else Full([])]
                        spare = [Spare(number) for number in (1, 2, most_by_places(places, many))]
                        if type(answer) is not Full:
                            self.assertFalse(any(other.shows(places, ties, many) for other in full))
                        if type(answer) is not Spare:
                            self.assertFalse(any(other.shows(places, ties, many) for other in spare))

    def test_shows_of_other_webs_and_counts(self):
        for places in (2, 3, 7, 30, 60):
            chance = chance_of(places)
            for ties in tried_webs(places, chance):
                others = list(changed_webs(places, ties, chance))
                for many in tried_counts(places):
                    answer = told(places, ties, many)
                    for other in others:
                        with self.subTest(places=places, ties=ties, many=many, other=other):
                            self.assertIs(answer.shows(places, other, many), self.is_so(answer, places, other, many))
                    for count in (many - 1, many + 1, VAST):
                        with self.subTest(places=places, ties=ties, many=many, count=count):
                            if count >= 1:
                                so = self.is_so(answer, places, ties, count)
                                self.assertIs(answer.shows(places, ties, count), so)

    def is_so(self, answer, places, ties, many):
        if type(answer) is Spare:
            return answer.ties == most_by_places(places, many) - len(ties)
        if type(answer) is Full:
            sizes = [len(group) for group in answer.groups]
            even = max(sizes) - min(sizes) <= 1
            return even and len(sizes) == min(places, many) and ties_between(answer.groups) == sorted(ties)
        held = set(ties)
        return len(answer.some) == many + 1 and all(pair in held for pair in self.pairs_of(answer.some))

    def pairs_of(self, some):
        return [(one, other) for one in some for other in some if one < other]

    def test_the_same_in_any_turn_of_the_ties(self):
        for places in (5, 30, 60):
            ties = ties_between(even_groups(places, 4))
            for web in [ties] + list(changed_webs(places, ties, chance_of(places))):
                for many in (2, 3, 4, 5):
                    name = type(told(places, web, many))
                    for seed in range(4):
                        turned = list(web)
                        chance_of(seed).shuffle(turned)
                        with self.subTest(places=places, many=many, seed=seed):
                            self.assertIs(type(self.check(places, turned, many)), name)


if __name__ == "__main__":
    unittest.main()
