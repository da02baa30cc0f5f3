"""Policies: midfall/policies.py."""

import itertools
import unittest

from midfall.namesets import NameSet
from midfall.policies import CarefulPolicy, EagerPolicy, Policy, TrailPolicy


class MakingTest(unittest.TestCase):
    def test_three_policies_without_arguments(self):
        for policy_class in (CarefulPolicy, TrailPolicy, EagerPolicy):
            policy = policy_class()
            self.assertIsInstance(policy, Policy)
            self.assertIsInstance(policy.marks, NameSet)
            self.assertEqual(policy.marks.members, ())
            self.assertEqual(policy_class.__module__, "midfall.policies")
        self.assertEqual(Policy.__module__, "midfall.policies")

    def test_they_are_separate_classes(self):
        for one, other in itertools.permutations((CarefulPolicy, TrailPolicy, EagerPolicy), 2):
            self.assertFalse(issubclass(one, other))
            self.assertTrue(issubclass(one, Policy))

    def test_careful_and_trail_take_no_marks(self):
        for policy_class in (CarefulPolicy, TrailPolicy):
            with self.assertRaises(TypeError):
                policy_class(["p"])

    def test_marks_from_each_kind_in_any_order_with_duplicates(self):
        for names in itertools.permutations(["p", "w", "a", "p"]):
            for kind in (list, tuple, NameSet):
                marks = EagerPolicy(kind(names)).marks
                self.assertIsInstance(marks, NameSet)
                self.assertEqual(marks.members, ("a", "p", "w"))
        self.assertEqual(EagerPolicy(marks=["p"]).marks.members, ("p",))

    def test_marks_that_are_not_names(self):
        self.assertEqual(EagerPolicy(["", "B", "ninechars"]).marks.members, ("", "B", "ninechars"))

    def test_what_was_passed_stays_and_later_changes_do_nothing(self):
        names = ["w", "p", "w"]
        policy, same = EagerPolicy(names), EagerPolicy(["p", "w"])
        self.assertEqual(names, ["w", "p", "w"])
        names.append("a")
        names[0] = "b"
        self.assertEqual(policy.marks.members, ("p", "w"))
        self.assertEqual(str(policy), "eager p w")
        self.assertTrue(policy == same)

    def test_marks_are_not_shared(self):
        one, other = EagerPolicy(["a"]), EagerPolicy(["b"])
        self.assertEqual((one.marks.members, other.marks.members, EagerPolicy().marks.members), (("a",), ("b",), ()))


class TextTest(unittest.TestCase):
    def test_text(self):
        self.assertEqual(str(CarefulPolicy()), "careful")
        self.assertEqual(str(TrailPolicy()), "trail")
        self.assertEqual(str(EagerPolicy()), "eager")
        self.assertEqual(str(EagerPolicy(["p"])), "eager p")
        self.assertEqual(str(EagerPolicy(["w", "a", "p", "aa", "w"])), "eager a aa p w")


class EqualityTest(unittest.TestCase):
    def test_all_pairs(self):
        makers = [CarefulPolicy, TrailPolicy, EagerPolicy, lambda: EagerPolicy(["p"]), lambda: EagerPolicy(["q"]),
                  lambda: EagerPolicy(["p", "q"])]
        for one, maker in enumerate(makers):
            for other, other_maker in enumerate(makers):
                self.assertIs(maker() == other_maker(), one == other)
                self.assertIs(maker() != other_maker(), one != other)

    def test_order_and_duplicates_have_no_meaning(self):
        self.assertTrue(EagerPolicy(["p", "q"]) == EagerPolicy(NameSet(["q", "p", "q"])))
        self.assertFalse(EagerPolicy(["p", "q"]) != EagerPolicy(("q", "p", "q")))

    def test_other_kinds_of_values(self):
        for policy in (CarefulPolicy(), TrailPolicy(), EagerPolicy(), EagerPolicy(["p"])):
            for value in (None, str(policy), policy.marks, 0, (), [policy], type(policy)):
                self.assertFalse(policy == value)
                self.assertTrue(policy != value)


if __name__ == "__main__":
    unittest.main()
