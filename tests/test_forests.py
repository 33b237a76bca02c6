"""hearpurse.forests, [1.1] and [1.2] but for the texts: which rows make a forest, and what it tells of them."""

import unittest

from hearpurse.errors import InvalidForest, UnknownAccount
from hearpurse.forests import Forest
from tests.samples import CHAIN, FLAT, MIXED, NAMES, NO_NAMES, NO_STRINGS, SHAPES, above, all_rows, inside, nested


class TestInterface(unittest.TestCase):
    def test_the_class_defines_its_methods(self):
        self.assertEqual(Forest.__module__, "hearpurse.forests")
        for name in ("__init__", "__eq__", "names", "ancestors", "subtree", "text", "parse"):
            with self.subTest(name=name):
                self.assertIn(name, vars(Forest))

    def test_most(self):
        self.assertEqual(Forest.MOST, 8)
        self.assertIs(type(Forest.MOST), int)
        self.assertEqual(Forest([("a", None)]).MOST, 8)

    def test_arguments_by_their_names(self):
        forest = Forest(rows=[("a", None), ("b", "a")])
        self.assertEqual(forest.ancestors(name="b"), ["b", "a"])
        self.assertEqual(forest.subtree(name="a"), ["a", "b"])


class TestRows(unittest.TestCase):
    def refuse(self, rows):
        with self.assertRaises(InvalidForest):
            Forest(rows)

    def refuse_in_every_place(self, row):
        """Refuse the row alone, first, in the midst and last, in a list and in a tuple."""
        others = [("x", None), ("y", "x")]
        for at in range(3):
            rows = others[:at] + [row] + others[at:]
            self.refuse(rows)
            self.refuse(tuple(rows))
        self.refuse([row])
        self.refuse((row,))

    def test_lists_and_tuples_of_rows(self):
        for rows in SHAPES:
            with self.subTest(rows=rows):
                names = tuple([name for name, parent in rows])
                self.assertEqual(Forest(rows).names, names)
                self.assertEqual(Forest(tuple(rows)).names, names)
                self.assertIs(Forest(rows) == Forest(tuple(rows)), True)

    def test_from_1_to_8_rows(self):
        for rows in (FLAT, CHAIN):
            for many in range(1, 9):
                with self.subTest(rows=rows[:many]):
                    self.assertEqual(Forest(rows[:many]).names, tuple(NAMES[:many]))
                    self.assertEqual(Forest(tuple(rows[:many])).names, tuple(NAMES[:many]))

    def test_no_rows_and_too_many_rows(self):
        self.refuse([])
        self.refuse(())
        for rows in (FLAT, CHAIN):
            self.refuse(rows)
            self.refuse(tuple(rows))
        letters = [(letter, None) for letter in "abcdefghijklmnopqrstuvwxyz"]
        for many in range(9, 27):
            self.refuse(letters[:many])

    def test_every_small_forest(self):
        for many in range(1, 6):
            for rows in all_rows(many):
                self.assertEqual(Forest(rows).names, tuple(NAMES[:many]))

    def test_a_name_twice(self):
        self.refuse([("a", None), ("a", None)])
        self.refuse([("a", None), ("a", "a")])
        self.refuse([("a", None), ("b", None), ("a", None)])
        self.refuse([("a", None), ("b", "a"), ("b", None)])
        self.refuse([("a", None), ("b", "a"), ("c", "b"), ("b", "a")])
        self.refuse(FLAT[:7] + [("a", None)])

    def test_a_parent_that_stands_later(self):
        self.refuse([("a", "b"), ("b", None)])
        self.refuse([("a", None), ("b", "c"), ("c", "a")])
        self.refuse([("a", "b"), ("b", "a")])

    def test_a_parent_that_stands_nowhere(self):
        self.refuse([("a", "b")])
        self.refuse([("a", None), ("b", "c")])
        self.refuse([("a", None), ("b", "a"), ("c", "d")])

    def test_an_account_inside_itself(self):
        self.refuse([("a", "a")])
        self.refuse([("a", None), ("b", "b")])
        self.refuse([("a", None), ("b", "b"), ("c", "a")])

    def test_a_row_that_is_no_tuple(self):
        for row in (["a", None], ["b", "a"], "ab", "ba", {"a": 1, "b": 2}, None, 2, "a", True, []):
            with self.subTest(row=row):
                self.refuse_in_every_place(row)
                self.refuse([("a", None), row])
                self.refuse([("b", None), row])
                self.refuse([("y", None), ("x", "y"), row])

    def test_a_row_of_another_length(self):
        for row in ((), ("a",), (None,), ("a", None, None), ("a", "x", "y"), ("a", None, "x"), (("a", None),)):
            with self.subTest(row=row):
                self.refuse_in_every_place(row)

    def test_a_name_that_is_none(self):
        for name in NO_NAMES:
            with self.subTest(name=name):
                self.refuse_in_every_place((name, None))
                self.refuse([("x", None), (name, "x")])

    def test_a_parent_that_is_no_name_and_not_none(self):
        for parent in NO_NAMES:
            if parent is not None:
                with self.subTest(parent=parent):
                    self.refuse_in_every_place(("b", parent))
                    self.refuse([("a", None), ("b", parent)])

    def test_an_account_whose_parent_was_refused(self):
        self.refuse([("A", None), ("b", "A")])
        self.refuse([("", None), ("b", "")])
        self.refuse([(1, None), ("b", 1)])

    def test_values_that_are_no_list_and_no_tuple(self):
        for value in NO_STRINGS:
            if not isinstance(value, (list, tuple)):
                with self.subTest(value=value):
                    self.refuse(value)
        for value in ("", "a", "ab", "account a\n", {"ab": 1}, {("a", None): None}, {0: ("a", None)}):
            with self.subTest(value=value):
                self.refuse(value)

    def test_lists_and_tuples_of_other_things(self):
        for value in NO_STRINGS:
            if value != [("a", None)] and value != (("a", None),):
                with self.subTest(value=value):
                    self.refuse(value)
        self.refuse(nested(18, ("a", None), lambda inner: (inner, None)))
        self.refuse([[("a", None)]])
        self.refuse([("a", None), [("b", None)]])

    def test_the_list_is_copied_and_not_changed(self):
        rows = list(MIXED)
        forest = Forest(rows)
        self.assertEqual(rows, MIXED)
        rows[1] = ("b", "r")
        rows.append(("t", "s"))
        del rows[0]
        self.assertEqual(forest.names, ("a", "b", "r", "c", "d", "s", "e", "f"))
        self.assertEqual(forest.ancestors("d"), ["d", "b", "a"])
        self.assertEqual(forest.subtree("r"), ["r", "s"])
        rows.clear()
        self.assertEqual(forest.names, ("a", "b", "r", "c", "d", "s", "e", "f"))
        self.assertIs(forest == Forest(MIXED), True)

    def test_forests_do_not_share_rows(self):
        one = Forest([("a", None), ("b", "a")])
        other = Forest([("a", None), ("b", None)])
        self.assertEqual([one.ancestors("b"), other.ancestors("b")], [["b", "a"], ["b"]])


class TestNames(unittest.TestCase):
    def test_the_tuple_in_the_order_of_the_rows(self):
        for rows in SHAPES:
            with self.subTest(rows=rows):
                names = Forest(rows).names
                self.assertIs(type(names), tuple)
                self.assertEqual(names, tuple([name for name, parent in rows]))

    def test_the_order_is_not_that_of_the_alphabet(self):
        self.assertEqual(Forest([("z", None), ("m", "z"), ("a", "z"), ("q", None)]).names, ("z", "m", "a", "q"))


class TestAncestorsAndSubtrees(unittest.TestCase):
    def test_mixed_by_hand(self):
        forest = Forest(MIXED)
        self.assertEqual(
            [forest.ancestors(name) for name in forest.names],
            [["a"], ["b", "a"], ["r"], ["c", "a"], ["d", "b", "a"], ["s", "r"], ["e", "c", "a"], ["f", "b", "a"]],
        )
        self.assertEqual(
            [forest.subtree(name) for name in forest.names],
            [
                ["a", "b", "c", "d", "e", "f"], ["b", "d", "f"], ["r", "s"], ["c", "e"],
                ["d"], ["s"], ["e"], ["f"],
            ],
        )

    def test_a_chain_by_hand(self):
        forest = Forest(CHAIN[:8])
        self.assertEqual(forest.ancestors("abcdefgh"), list(reversed(NAMES[:8])))
        self.assertEqual(forest.ancestors("account"), ["account", "purse", "bb", "a"])
        self.assertEqual(forest.subtree("a"), NAMES[:8])
        self.assertEqual(forest.subtree("zzzzzzzz"), ["zzzzzzzz", "g", "abcdefgh"])

    def test_the_order_of_a_subtree_is_that_of_the_rows(self):
        forest = Forest([("z", None), ("y", "z"), ("b", "z"), ("a", "y")])
        self.assertEqual(forest.subtree("z"), ["z", "y", "b", "a"])
        self.assertEqual(forest.subtree("y"), ["y", "a"])

    def check(self, rows):
        forest = Forest(rows)
        for name, _ in rows:
            pairs = ((forest.ancestors(name), above(rows, name)), (forest.subtree(name), inside(rows, name)))
            for found, expected in pairs:
                self.assertIs(type(found), list)
                self.assertEqual(found, expected)

    def test_every_account_of_several_shapes(self):
        for rows in SHAPES:
            with self.subTest(rows=rows):
                self.check(rows)

    def test_every_account_of_every_small_forest(self):
        for many in range(1, 6):
            for rows in all_rows(many):
                self.check(rows)

    def test_values_that_are_no_name_of_the_forest(self):
        for rows in SHAPES:
            forest = Forest(rows)
            for value in NO_NAMES + ["x", "aa", "abcdefg", "names", "parents"]:
                for asked in (forest.ancestors, forest.subtree):
                    with self.subTest(rows=rows, value=value):
                        with self.assertRaises(UnknownAccount) as caught:
                            asked(value)
                        self.assertIs(caught.exception.name, value)

    def test_the_name_of_another_forest(self):
        Forest([("a", None), ("b", "a")])
        forest = Forest([("a", None)])
        for asked in (forest.ancestors, forest.subtree):
            with self.assertRaises(UnknownAccount) as caught:
                asked("b")
            self.assertEqual(caught.exception.name, "b")

    def test_a_new_list_each_time(self):
        forest = Forest(MIXED)
        for asked in (forest.ancestors, forest.subtree):
            for name in forest.names:
                first = asked(name)
                kept = list(first)
                first.append("x")
                first[0] = "y"
                self.assertEqual(asked(name), kept)
                self.assertIsNot(asked(name), asked(name))
        self.assertIs(forest == Forest(MIXED), True)

    def test_an_error_changes_nothing(self):
        forest = Forest(MIXED)
        text = forest.text
        for asked in (forest.ancestors, forest.subtree):
            with self.assertRaises(UnknownAccount):
                asked("x")
        self.assertEqual([forest.text, len(forest.names)], [text, 8])


class TestEquality(unittest.TestCase):
    def compare(self, one, other, expected):
        self.assertIs(one == other, expected)
        self.assertIs(other == one, expected)
        self.assertIs(one != other, not expected)
        self.assertIs(other != one, not expected)

    def test_the_same_rows(self):
        for rows in SHAPES:
            with self.subTest(rows=rows):
                forest = Forest(rows)
                self.compare(forest, forest, True)
                self.compare(forest, Forest(list(rows)), True)
                self.compare(forest, Forest(tuple(rows)), True)

    def test_the_rows_in_another_order(self):
        self.compare(Forest([("a", None), ("b", None)]), Forest([("b", None), ("a", None)]), True)
        one = Forest([("a", None), ("b", "a"), ("c", "a")])
        other = Forest([("a", None), ("c", "a"), ("b", "a")])
        self.compare(one, other, True)
        self.assertNotEqual(one.names, other.names)
        moved = [MIXED[2], MIXED[0], MIXED[3], MIXED[5], MIXED[6], MIXED[1], MIXED[7], MIXED[4]]
        self.compare(Forest(MIXED), Forest(moved), True)

    def test_another_parent(self):
        self.compare(Forest([("a", None), ("b", "a")]), Forest([("a", None), ("b", None)]), False)
        self.compare(Forest([("a", None), ("b", "a")]), Forest([("b", None), ("a", "b")]), False)
        one = Forest([("a", None), ("b", "a"), ("c", "a")])
        other = Forest([("a", None), ("b", "a"), ("c", "b")])
        self.compare(one, other, False)

    def test_one_row_less(self):
        for rows in SHAPES:
            if len(rows) > 1:
                with self.subTest(rows=rows):
                    self.compare(Forest(rows), Forest(rows[:-1]), False)
        self.compare(Forest([("a", None), ("b", None)]), Forest([("b", None)]), False)

    def test_another_name(self):
        self.compare(Forest([("a", None)]), Forest([("b", None)]), False)
        self.compare(Forest([("a", None), ("b", "a")]), Forest([("a", None), ("c", "a")]), False)
        self.compare(Forest([("a", None), ("b", "a")]), Forest([("c", None), ("b", "c")]), False)

    def test_every_two_small_forests(self):
        every = []
        for many in range(1, 5):
            every.extend(all_rows(many))
        forests = [Forest(rows) for rows in every]
        for one, first in enumerate(forests):
            for other, second in enumerate(forests):
                self.assertIs(first == second, one == other)
                self.assertIs(first != second, one != other)

    def test_values_that_are_no_forest(self):
        for rows in SHAPES:
            forest = Forest(rows)
            same = [rows, tuple(rows), dict(rows), forest.names, list(forest.names), forest.text, len(rows)]
            for value in NO_NAMES + ["a"] + same + [object(), Forest]:
                with self.subTest(rows=rows, value=value):
                    self.compare(forest, value, False)


if __name__ == "__main__":
    unittest.main()
