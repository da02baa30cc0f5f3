"""Sets of names: midfall/namesets.py."""

import itertools
import unittest

from midfall.namesets import NameSet

SMALL_SETS = [
    names for size in range(4) for names in itertools.combinations(("a", "b", "c"), size)
]


class MakingTest(unittest.TestCase):
    def test_from_each_kind(self):
        for names in (["b", "a"], ("b", "a"), NameSet(["b", "a"])):
            self.assertEqual(NameSet(names).members, ("a", "b"))

    def test_by_name(self):
        self.assertEqual(NameSet(names=["b"]).members, ("b",))

    def test_empty(self):
        for nameset in (NameSet(), NameSet([]), NameSet(()), NameSet(NameSet())):
            self.assertEqual(nameset.members, ())
            self.assertEqual(len(nameset), 0)

    def test_any_order_with_duplicates(self):
        for names in itertools.permutations(["c", "a", "b", "a", "c"]):
            self.assertEqual(NameSet(list(names)).members, ("a", "b", "c"))

    def test_members_ascend_as_strings(self):
        names = ["b", "aa", "z", "ab", "a", "azzzzzzz"]
        self.assertEqual(NameSet(names).members, ("a", "aa", "ab", "azzzzzzz", "b", "z"))

    def test_members_is_a_tuple_of_the_names(self):
        members = NameSet(["abc"]).members
        self.assertIsInstance(members, tuple)
        self.assertEqual(members, ("abc",))

    def test_what_was_passed_stays(self):
        names = ["c", "a", "c"]
        nameset = NameSet(names)
        self.assertEqual(names, ["c", "a", "c"])
        names.append("b")
        names[0] = "d"
        self.assertEqual(nameset.members, ("a", "c"))
        self.assertNotIn("b", nameset)

    def test_nameset_that_was_passed_stays(self):
        first = NameSet(["b", "a"])
        second = NameSet(first)
        self.assertEqual((first.members, second.members), (("a", "b"), ("a", "b")))

    def test_sets_are_separate(self):
        first, second = NameSet(["a"]), NameSet(["b"])
        self.assertEqual((first.members, second.members), (("a",), ("b",)))

    def test_strings_that_are_not_names(self):
        names = ["ninechars", "", "B", "a b", "1", "\n", "{", "e\u0301", "a"]
        nameset = NameSet(names)
        self.assertEqual(nameset.members, tuple(sorted(names)))
        for name in names:
            self.assertIn(name, nameset)


class ContainingTest(unittest.TestCase):
    def test_in(self):
        nameset = NameSet(["ab", "c"])
        self.assertIs("ab" in nameset, True)
        self.assertIs("c" in nameset, True)
        for name in ("a", "b", "abc", "", "AB", "ab ", "d"):
            self.assertIs(name in nameset, False)
            self.assertIs(name not in nameset, True)

    def test_len_counts_each_name_once(self):
        self.assertEqual(len(NameSet(["b", "a", "b", "b"])), 2)

    def test_truth(self):
        self.assertFalse(NameSet())
        self.assertTrue(NameSet(["a"]))


class ComparingTest(unittest.TestCase):
    def test_every_pair_of_small_sets(self):
        for left, right in itertools.product(SMALL_SETS, repeat=2):
            one, other = NameSet(left), NameSet(list(reversed(right)))
            self.assertIs(one == other, set(left) == set(right))
            self.assertIs(one != other, set(left) != set(right))
            self.assertIs(one <= other, set(left) <= set(right))
            self.assertIs(one < other, set(left) < set(right))
            self.assertIs(other >= one, set(left) <= set(right))
            self.assertIs(other > one, set(left) < set(right))

    def test_order_and_duplicates_have_no_meaning(self):
        self.assertEqual(NameSet(["b", "a", "b"]), NameSet(("a", "b")))

    def test_subset_is_not_the_order_of_strings(self):
        self.assertIs(NameSet(["a"]) <= NameSet(["b"]), False)
        self.assertIs(NameSet(["b"]) <= NameSet(["a", "b"]), True)
        self.assertIs(NameSet(["a"]) < NameSet(["ab"]), False)

    def test_not_equal_to_other_kinds(self):
        nameset = NameSet(["a", "b"])
        for other in (("a", "b"), ["a", "b"], {"a", "b"}, frozenset(("a", "b")), "ab", None, 2, True):
            self.assertIs(nameset == other, False)
            self.assertIs(other == nameset, False)
            self.assertIs(nameset != other, True)
            self.assertIs(other != nameset, True)

    def test_empty_set_is_not_equal_to_other_kinds(self):
        for other in ((), [], set(), "", None, 0, False):
            self.assertIs(NameSet() == other, False)
            self.assertIs(NameSet() != other, True)


class CombiningTest(unittest.TestCase):
    def test_every_pair_of_small_sets(self):
        for left, right in itertools.product(SMALL_SETS, repeat=2):
            one, other = NameSet(left), NameSet(right)
            expected = {
                "|": set(left) | set(right), "&": set(left) & set(right), "-": set(left) - set(right),
            }
            found = {"|": one | other, "&": one & other, "-": one - other}
            for sign, names in expected.items():
                self.assertIsInstance(found[sign], NameSet)
                self.assertEqual(found[sign].members, tuple(sorted(names)), (left, sign, right))
            self.assertEqual((one.members, other.members), (left, right))

    def test_in_place_signs_make_new_sets(self):
        first = second = NameSet(["a", "b"])
        first |= NameSet(["c"])
        self.assertEqual((first.members, second.members), (("a", "b", "c"), ("a", "b")))

    def test_union_ascends(self):
        self.assertEqual((NameSet(["c"]) | NameSet(["a", "c", "aa"])).members, ("a", "aa", "c"))


class InterfaceTest(unittest.TestCase):
    def test_methods_stand_in_the_class(self):
        for method in (
            "__init__", "__eq__", "__le__", "__lt__", "__or__", "__and__", "__sub__", "__contains__", "__len__",
        ):
            self.assertIn(method, vars(NameSet))
        self.assertEqual(NameSet.__module__, "midfall.namesets")


if __name__ == "__main__":
    unittest.main()
