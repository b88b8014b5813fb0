"""Point 1.5: sorts and values as texts, and read back."""

import random
import unittest

from helpers import kept, path_of, some_sort, some_value, untouched
from lossbars.errors import BadSort, BadText, BadValue
from lossbars.texts import read_sort, read_value, sort_text, value_text

COUNT = ("count",)
AB = ("mark", ("a", "abc"))
PAIR = ("both", AB, COUNT)
HEAP = ("heap", ("mark", ("b", "a")))
EITHER = ("either", COUNT, ("lane", COUNT))


def nested(many, last="count"):
    """The text of a sort of so many tuples within one another."""
    return "lane(" * (many - 1) + last + ")" * (many - 1)


class Sorts(unittest.TestCase):

    def wrong(self, text, place):
        self.assertEqual(kept(BadText, read_sort, text), {"place": place}, text)

    def test_written_and_read(self):
        for sort, text in [
                (COUNT, "count"), (("mark", ("a",)), "mark(a)"), (("mark", ("b", "abcdefgh", "c")), "mark(b,abcdefgh,c)"),
                (("both", COUNT, AB), "both(count,mark(a,abc))"), (("either", AB, COUNT), "either(mark(a,abc),count)"),
                (("lane", ("heap", COUNT)), "lane(heap(count))")]:
            self.assertEqual(untouched(sort_text, sort), text)
            self.assertEqual(untouched(read_sort, text), sort)
        for seed in range(100):
            sort = some_sort(random.Random(seed), 5, 4)
            self.assertEqual(read_sort(sort_text(sort)), sort)

    def test_examples(self):
        lane = ("lane", ("both", ("mark", ("a", "b")), COUNT))
        self.assertEqual([sort_text(lane), read_sort("heap(mark(b,a))") == HEAP],
                         ["lane(both(mark(a,b),count))", True])

    def test_what_is_no_string(self):
        for value in [None, True, 0, b"count", ["count"], ("count",), {}]:
            self.wrong(value, 0)

    def test_the_first_wrong_character(self):
        for text, place in [
                ("", 0), (" count", 0), ("Count", 0), ("cow", 2), ("heat(", 3), ("count ", 5), ("countcount", 5),
                ("mark(", 5), ("mark()", 5), ("mark(a,)", 7), ("mark(,a)", 5), ("mark(A)", 5), ("mark(a b)", 6),
                ("mark(a1)", 6), ("both(count)", 10), ("both(count,count,count)", 16), ("both(,count)", 5),
                ("lane(count,count)", 10), ("lane[count]", 4), ("lane()", 5), ("count()", 5), ("mark (a)", 4),
                ("heap(count))", 11), ("heap(count)\n", 11), ("both(mark(a,b),mark(c,d)", 24), ("bot", 3), ("e", 1),
                ("either(count,count", 18), ("mark(a\t)", 6), ("mark(a~)", 6)]:
            self.wrong(text, place)

    def test_cut_texts(self):
        text = "either(both(count,mark(a,bc)),lane(heap(count)))"
        for end in range(len(text)):
            self.wrong(text[:end], end)
        read_sort(text)

    def test_letters_of_one_to_eight_characters(self):
        self.assertEqual(read_sort("mark(abcdefgh)"), ("mark", ("abcdefgh",)))
        self.wrong("mark(abcdefghi)", 13)
        self.wrong("mark(a,abcdefghi,b)", 15)

    def test_one_to_three_letters(self):
        self.assertEqual(read_sort("mark(a,b,c)"), ("mark", ("a", "b", "c")))
        self.wrong("mark(a,b,c,d)", 10)

    def test_twelve_within_one_another_and_thirteen(self):
        # As texts twelve are right; that there are too many tuples comes behind.
        for last in ["count", "mark(a,b)"]:
            self.assertEqual(path_of(BadSort, read_sort, nested(12, last)), ())
            self.wrong(nested(13, last), 5 * 11)
        self.assertEqual(path_of(BadSort, read_sort, nested(6)), ())
        self.assertEqual(read_sort(nested(5)), ("lane", ("lane", ("lane", ("lane", COUNT)))))
        both = "both(count," * 11 + "count" + ")" * 11
        self.assertEqual(path_of(BadSort, read_sort, both), ())
        self.wrong("both(count," * 12, 11 * 11)
        self.wrong("both(" * 12, 55)

    def test_however_many(self):
        text = "count"
        for _ in range(11):
            text = f"both({text},{text})"
        self.assertEqual(path_of(BadSort, read_sort, text), ())
        self.wrong(text + ")", len(text))

    def test_errors_of_check_sort_come_behind(self):
        self.assertEqual(path_of(BadSort, read_sort, "both(count,lane(mark(a,a)))"), (2, 1))
        self.wrong("both(mark(a,a),cow)", 17)

    def test_sort_text_asks_for_a_sort(self):
        self.assertEqual(path_of(BadSort, sort_text, ("lane", ("mark", ("a", "a")))), (1,))
        self.assertEqual(path_of(BadSort, sort_text, "count"), ())


class Values(unittest.TestCase):

    def wrong(self, sort, text, place):
        self.assertEqual(kept(BadText, read_value, sort, text), {"place": place}, text)

    def test_written_and_read(self):
        for sort, value, text in [
                (AB, "abc", "abc"), (COUNT, 0, "0"), (COUNT, 99, "99"), (PAIR, ("a", 12), "(a,12)"),
                (EITHER, ("left", 7), "<7"), (EITHER, ("right", (1, 20)), ">[1,20]"), (("lane", COUNT), (), "[]"),
                (HEAP, (), "{}"), (HEAP, ("b", "a", "a"), "{b,a,a}"), (("lane", HEAP), ((), ("a",)), "[{},{a}]"),
                (("lane", COUNT), (1,) * 8, "[1,1,1,1,1,1,1,1]"),
                (("both", EITHER, ("either", AB, PAIR)), (("left", 0), ("right", ("a", 1))), "(<0,>(a,1))")]:
            self.assertEqual(untouched(value_text, sort, value), text)
            self.assertEqual(untouched(read_value, sort, text), value)
        for seed in range(200):
            draw = random.Random(seed)
            sort = some_sort(draw, 5, 4)
            value = some_value(draw, sort, 99, 4)
            self.assertEqual(read_value(sort, value_text(sort, value)), value)

    def test_examples(self):
        lane = ("lane", ("both", ("mark", ("a", "b")), COUNT))
        self.assertEqual([value_text(lane, (("a", 2), ("b", 0), ("a", 1))), read_value(lane, "[(a,12)]"),
                          read_value(HEAP, "{a,b}")], ["[(a,2),(b,0),(a,1)]", (("a", 12),), ("b", "a")])
        self.wrong(lane, "[(a,02)]", 5)
        self.wrong(PAIR, "(ab,1)", 3)

    def test_heaps_in_any_order(self):
        self.assertEqual(read_value(HEAP, "{a,b,a}"), ("b", "a", "a"))
        self.assertEqual(read_value(("heap", ("heap", COUNT)), "{{9,3},{},{10,2}}"), ((), (2, 10), (3, 9)))

    def test_letters(self):
        for text, place in [("", 0), ("b", 0), ("A", 0), ("ab", 2), ("abd", 2), ("abcd", 3), ("aa", 1), (" a", 0),
                            ("a ", 1), ("abc,", 3)]:
            self.wrong(AB, text, place)
        self.assertEqual(read_value(("mark", ("ab", "a", "b")), "ab"), "ab")

    def test_numbers(self):
        for text, place in [("", 0), ("00", 1), ("01", 1), ("100", 2), ("999", 2), ("-1", 0), ("+1", 0), ("1.", 1),
                            ("a", 0), ("1 ", 1), (" 1", 0), ("9a", 1)]:
            self.wrong(COUNT, text, place)

    def test_pairs_sides_stores(self):
        for sort, text, place in [
                (PAIR, "(a,1", 4), (PAIR, "(a,1))", 5), (PAIR, "[a,1]", 0), (PAIR, "(a;1)", 2), (PAIR, "(a,)", 3),
                (PAIR, "(1,a)", 1), (EITHER, "7", 0), (EITHER, "<", 1), (EITHER, "<[", 1), (EITHER, ">7", 1),
                (EITHER, ">[7", 3), (("lane", COUNT), "{1}", 0), (HEAP, "[a]", 0), (("lane", COUNT), "[,1]", 1),
                (("lane", COUNT), "[1,]", 3), (("lane", COUNT), "[1 ]", 2), (("lane", COUNT), "[1]]", 3),
                (("lane", COUNT), "[1}", 2), (HEAP, "{a,b", 4), (HEAP, "{a,c}", 3), (HEAP, "{", 1)]:
            self.wrong(sort, text, place)

    def test_eight_elements_and_nine(self):
        for sort, ends in [(("lane", COUNT), "[]"), (("heap", COUNT), "{}")]:
            self.assertEqual(read_value(sort, ends[0] + "1," * 7 + "1" + ends[1]), (1,) * 8)
            self.wrong(sort, ends[0] + "1," * 8 + "1" + ends[1], 16)

    def test_cut_texts(self):
        sort = ("lane", ("both", AB, ("either", COUNT, HEAP)))
        text = "[(abc,<10),(a,>{b,a}),(a,>{})]"
        read_value(sort, text)
        for end in range(len(text)):
            self.wrong(sort, text[:end], end)

    def test_what_is_no_string(self):
        for value in [None, True, 7, ["a"], b"a", ("a",), {}]:
            self.wrong(AB, value, 0)
            self.wrong(COUNT, value, 0)

    def test_the_order_of_errors(self):
        self.assertEqual(path_of(BadSort, read_value, ("lane", None), 7), (1,))
        self.assertEqual(path_of(BadSort, value_text, ("lane", None), 7), (1,))
        self.assertEqual(path_of(BadValue, value_text, ("lane", COUNT), (1, 100)), (1,))
        self.assertEqual(path_of(BadValue, value_text, HEAP, ("a", "b")), ())
        self.assertEqual(path_of(BadValue, value_text, HEAP, ["b"]), ())


if __name__ == "__main__":
    unittest.main()
