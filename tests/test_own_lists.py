"""Lists that are told are the asker's own; what is handed in stays as it was, and none of it is kept."""

import copy
import unittest

from helping import all_ties, chance_of, even_groups, renamed, ties_between
from surecrowd.answers import Crowd, Full, Parted, Spare, Three
from surecrowd.counting import fullest
from surecrowd.telling import parted, told

SPLIT = ties_between([[0, 2, 4], [1, 3, 5]])

# Webs with a count, and what is told of them.
COUNTED = ((6, SPLIT, 2, Full), (6, SPLIT, 3, Spare), (6, SPLIT, 1, Crowd), (1, [], 1, Full), (6, [], 1, Full),
           (60, all_ties(60), 59, Crowd), (60, all_ties(60), 60, Full), (60, fullest(60, 7), 7, Full))
WEBS = ((6, SPLIT, Parted), (6, SPLIT[1:], Three), (1, [], Parted), (60, [], Parted), (60, all_ties(60), Parted))


def spoil(answer):
    """Change each field of an answer, each list that it holds, and each list within one."""
    for name, worth in list(vars(answer).items()):
        if isinstance(worth, list):
            for inner in worth:
                if isinstance(inner, list):
                    inner.clear()
                    inner.append(77)
            worth.reverse()
            worth.append([99])
        setattr(answer, name, 55)


class TestToldAgain(unittest.TestCase):
    def test_behind_a_change_of_what_was_told(self):
        for places, ties, many, made in COUNTED:
            with self.subTest(places=places, many=many):
                first = told(places, ties, many)
                self.assertIs(type(first), made)
                kept = copy.deepcopy(vars(first))
                held = [worth for worth in vars(first).values() if isinstance(worth, list)]
                spoil(first)
                second = told(places, ties, many)
                self.assertIsNot(second, first)
                self.assertEqual(vars(second), kept)
                for worth in vars(second).values():
                    self.assertFalse(any(worth is old for old in held))
                self.assertIs(second.shows(places, ties, many), True)

    def test_of_a_web_alone(self):
        for places, ties, made in WEBS:
            with self.subTest(places=places, ties=ties):
                first = parted(places, ties)
                self.assertIs(type(first), made)
                kept = copy.deepcopy(vars(first))
                spoil(first)
                second = parted(places, ties)
                self.assertIsNot(second, first)
                self.assertEqual(vars(second), kept)
                self.assertIs(second.shows(places, ties), True)

    def test_no_two_lists_within_are_one(self):
        for places, many in ((1, 1), (6, 2), (6, 6), (60, 1), (60, 7), (60, 60)):
            ties = renamed(places, fullest(places, many), chance_of(many))
            with self.subTest(places=places, many=many):
                answers = [told(places, ties, many), told(places, ties, many), parted(places, ties),
                           parted(places, ties)]
                lists = [group for answer in answers for group in answer.groups] + [a.groups for a in answers]
                self.assertEqual(len({id(held) for held in lists}), len(lists))

    def test_a_change_of_one_group_changes_no_other(self):
        ties = ties_between(even_groups(9, 3))
        for answer in (told(9, ties, 3), parted(9, ties)):
            others = copy.deepcopy(answer.groups[1:])
            answer.groups[0].append(50)
            self.assertEqual(answer.groups[1:], others)

    def test_the_fullest_ties_told_to_be_asked_of(self):
        ties = fullest(6, 2)
        answer = told(6, ties, 2)
        ties.clear()
        self.assertIs(answer.shows(6, fullest(6, 2), 2), True)


class TestHandedIn(unittest.TestCase):
    def test_stays_as_it_was(self):
        for places, ties, many, _ in COUNTED:
            for seed in range(3):
                handed = renamed(places, ties, chance_of(seed))
                kept, same = copy.deepcopy(handed), list(handed)
                with self.subTest(places=places, many=many, seed=seed):
                    told(places, handed, many)
                    parted(places, handed)
                    self.assertEqual(handed, kept)
                    self.assertTrue(all(one is other for one, other in zip(handed, same)))

    def test_is_not_kept(self):
        for places, ties, many, _ in COUNTED:
            handed = list(ties)
            with self.subTest(places=places, many=many):
                answers = [told(places, handed, many), parted(places, handed)]
                kept = [copy.deepcopy(vars(answer)) for answer in answers]
                handed.clear()
                handed.append((0, 0))
                self.assertEqual([vars(answer) for answer in answers], kept)

    def test_what_was_asked_before_does_not_matter(self):
        before = vars(told(6, SPLIT, 2)), vars(parted(6, SPLIT))
        for places, ties, many, _ in COUNTED:
            told(places, ties, many)
            parted(places, ties)
            self.assertEqual((vars(told(6, SPLIT, 2)), vars(parted(6, SPLIT))), before)


class TestFields(unittest.TestCase):
    def test_an_answer_holds_its_own_fields_and_no_other(self):
        for places, ties, many, made in COUNTED:
            names = {Full: ["groups"], Spare: ["ties"], Crowd: ["some"]}[made]
            self.assertEqual(list(vars(told(places, ties, many))), names)
        for places, ties, made in WEBS:
            names = {Parted: ["groups"], Three: ["one", "other", "third"]}[made]
            self.assertEqual(list(vars(parted(places, ties))), names)


if __name__ == "__main__":
    unittest.main()
