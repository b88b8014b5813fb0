"""Point 1.1: sorts."""

import unittest

from helpers import ODD, kept, path_of, untouched
from lossbars.errors import BadSort
from lossbars.sorts import check_sort, components

COUNT = ("count",)
MARK = ("mark", ("a", "b", "c"))


def lanes(many, inner=COUNT):
    for _ in range(many):
        inner = ("lane", inner)
    return inner


def eithers(many):
    """A sort of 2 * many + 1 tuples, no more than five within one another for many to 15."""
    if many == 0:
        return COUNT
    return ("either", eithers((many - 1) // 2), eithers(many - 1 - (many - 1) // 2))


class Sorts(unittest.TestCase):

    def right(self, sort):
        self.assertIsNone(check_sort(sort))

    def wrong(self, value, path):
        self.assertEqual(path_of(BadSort, check_sort, value), path, value)
        self.assertEqual(path_of(BadSort, components, value), path, value)

    def test_right_ones(self):
        for sort in [("mark", ("a",)), MARK, ("mark", ("abcdefgh", "z")), COUNT, ("both", COUNT, MARK),
                     ("either", MARK, COUNT), ("lane", MARK), ("heap", COUNT), ("heap", ("lane", ("heap", MARK))),
                     ("both", ("either", COUNT, ("lane", MARK)), ("heap", ("both", COUNT, COUNT)))]:
            self.right(sort)

    def test_components(self):
        for sort, many in [(MARK, 3), (COUNT, 1), (("lane", MARK), 1), (("heap", ("both", MARK, MARK)), 1),
                           (("both", MARK, ("both", COUNT, ("mark", ("x", "y")))), 6),
                           (("either", MARK, ("both", MARK, MARK)), 12), (("either", COUNT, ("lane", COUNT)), 2)]:
            self.assertEqual(components(sort), many)

    def test_forms(self):
        for value in ODD:
            self.wrong(value, ())
        for value in [("count", 1), ("mark",), ("mark", ("a",), ("b",)), ("both", COUNT), ("both", COUNT, COUNT, COUNT),
                      ("either", COUNT), ("lane",), ("lane", COUNT, COUNT), ("heap", COUNT, 1), ("Count",), "count",
                      ["count"], ["lane", COUNT], (1,), (("count",),), ("",)]:
            self.wrong(value, ())

    def test_letters(self):
        for letters in [(), ("a", "b", "c", "d"), ("a", "a"), ("a", "b", "a"), ("abcdefghi",), ("",), ("A",), ("a1",),
                        ("a b",), ("a", None), (1,), ["a"], "a", None, True, {"a": 1}, (("a",),), (["a"],), ({},)]:
            self.wrong(("mark", letters), ())
            self.wrong(("both", COUNT, ("lane", ("mark", letters))), (2, 1))

    def test_the_first_thing_that_is_wrong(self):
        self.wrong(("both", ("lane", None), ("nothing",)), (1, 1))
        self.wrong(("both", ("lane", COUNT), ("nothing",)), (2,))
        self.wrong(("both", ("either", COUNT, ["count"]), None), (1, 2))
        self.wrong(("both", ("either", COUNT, True), None), (1, 2))
        self.wrong(("heap", ("either", ("mark", ("a", "a")), 0)), (1, 1))
        # A wrong form goes ahead of all that is too much.
        self.wrong(("lane", ("lane", ("lane", ("lane", ("lane", ("lane", {})))))), (1, 1, 1, 1, 1, 1))

    def test_lists_are_no_tuples(self):
        self.wrong(["both", COUNT, COUNT], ())
        self.wrong(("both", COUNT, ["count"]), (2,))

    def test_at_most_eleven_tuples(self):
        self.right(eithers(5))
        # Twelve: a lane stands ahead of one count.
        self.wrong(("either", ("lane", eithers(1)), eithers(3)), ())
        self.wrong(eithers(6), ())

    def test_at_most_five_within_one_another(self):
        self.right(("both", COUNT, ("both", COUNT, ("both", COUNT, ("both", COUNT, COUNT)))))
        self.wrong(("either", COUNT, ("both", COUNT, ("lane", ("both", COUNT, ("lane", COUNT))))), ())
        self.right(lanes(4))
        self.wrong(lanes(5), ())

    def test_at_most_four_lanes_and_heaps(self):
        four = ("both", ("lane", ("heap", COUNT)), ("both", ("lane", COUNT), ("heap", COUNT)))
        self.right(four)
        self.wrong(("both", ("lane", ("heap", COUNT)), ("both", ("lane", COUNT), ("heap", ("lane", COUNT)))), ())

    def test_at_most_27_components(self):
        cube = ("both", MARK, ("both", MARK, MARK))
        self.assertEqual(components(cube), 27)
        self.right(("lane", cube))
        self.wrong(("either", COUNT, cube), ())
        # Within a lane they count, too, though the lane has one component.
        self.wrong(("lane", ("either", COUNT, cube)), ())
        self.assertEqual(components(("either", cube[2], ("either", cube[2], cube[2]))), 27)

    def test_large_values(self):
        deep = COUNT
        for _ in range(28):
            deep = ("lane", deep)
        self.wrong(deep, ())
        wide = COUNT
        for _ in range(13):
            wide = ("both", wide, wide)
        self.wrong(wide, ())
        self.wrong(("mark", tuple("a" for _ in range(50000))), ())

    def test_nothing_is_modified(self):
        for value in [[COUNT, ["lane"]], ("mark", ["a"]), ("lane", {"a": []})]:
            before = repr(value)
            kept(BadSort, check_sort, value)
            self.assertEqual(repr(value), before)
        self.assertEqual(untouched(components, MARK), 3)


if __name__ == "__main__":
    unittest.main()
