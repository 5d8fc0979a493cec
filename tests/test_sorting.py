"""What becomes of one letter."""

import unittest

from sortpost.errors import BadLetter
from sortpost.sorting import acting, sort
from wrong import NO_LETTER


def holds(condition, words=(), sender="bob", size=5):
    return acting(f"if {condition} then stop", (sender, list(words), size)) == [0]


class Facts(unittest.TestCase):

    def test_sender(self):
        self.assertTrue(holds("from bob"))
        self.assertFalse(holds("from bo"))
        self.assertFalse(holds("from bobb"))
        self.assertFalse(holds("from a", ["a"]))

    def test_words(self):
        for fact, words, expected in (
                ("has a", [], False), ("has a", ["a"], True), ("has a", ["b", "a", "c"], True), ("has a", ["aa"], False),
                ("has bob", ["a"], False), ("first a", [], False), ("first a", ["a"], True), ("first a", ["a", "b"], True),
                ("first a", ["b", "a"], False), ("last a", [], False), ("last a", ["a"], True), ("last a", ["b", "a"], True),
                ("last a", ["a", "b"], False), ("pair a b", [], False), ("pair a b", ["a"], False),
                ("pair a b", ["a", "b"], True), ("pair a b", ["b", "a"], False), ("pair a b", ["a", "c", "b"], False),
                ("pair a b", ["a", "a", "b"], True), ("pair a b", ["c", "a", "b", "c"], True), ("pair a a", ["a"], False),
                ("pair a a", ["a", "b", "a"], False), ("pair a a", ["a", "a"], True)):
            self.assertEqual(holds(fact, words), expected, (fact, words))

    def test_size(self):
        self.assertFalse(holds("over 0", size=0))
        self.assertTrue(holds("over 0", size=1))
        self.assertFalse(holds("over 5", size=5))
        self.assertTrue(holds("over 5", size=6))
        self.assertTrue(holds("over 99998", size=99999))
        self.assertFalse(holds("over 99999", size=99999))

    def test_conditions(self):
        for condition, expected in (
                ("any", True), ("not any", False), ("not not any", True), ("not (any)", False),
                ("has a and has b", True), ("has a and has c", False), ("has c or has a", True), ("has c or has d", False),
                ("has a or has b and has c", True), ("(has a or has b) and has c", False),
                ("not has a and has c or has b", True), ("not (has a and has c) and has b", True),
                ("not has c and not has d", True), ("not has a or not has c", True), ("not (has a or has c)", False),
                ("has c and has d or has a and has b", True), ("has c and (has d or has a) or has d", False)):
            self.assertEqual(holds(condition, ["a", "b"]), expected, condition)


class Deeds(unittest.TestCase):

    def test_in_turn_and_once(self):
        text = "if any then file b, file a, pass z, pass y\nif any then file c, file b, pass y, pass a, mark b, mark aa, mark a"
        self.assertEqual(sort(text, ("a", [], 0)), (["b", "a", "c"], ["a", "b", "aa"], ["z", "y", "a"]))

    def test_later_rules_see_what_earlier_ones_did(self):
        text = ("if marked m then file early\nif has a then mark m\nif marked m then file x, unmark m\n"
                "if marked m then file y\nif not marked m then file z")
        self.assertEqual(sort(text, ("a", ["a"], 0)), (["x", "z"], [], []))
        self.assertEqual(acting(text, ("a", ["a"], 0)), [1, 2, 4])
        self.assertEqual(sort(text, ("a", [], 0)), (["z"], [], []))

    def test_deeds_of_one_rule_in_turn(self):
        self.assertEqual(sort("if any then mark a, unmark a, unmark b, mark b, mark b", ("a", [], 0)), ([], ["b"], []))
        self.assertEqual(sort("if any then unmark a", ("a", [], 0)), ([], [], []))

    def test_stop_ends_rules_and_deeds(self):
        text = "if any then file a, stop, file b, mark m, pass c\nif any then file d"
        self.assertEqual(sort(text, ("a", [], 0)), (["a"], [], []))
        self.assertEqual(acting(text, ("a", [], 0)), [0])

    def test_numbers_count_rules_not_rows(self):
        text = "# first\n\nif has a then stop\n   \nif any then mark m\n#\nif any then stop"
        self.assertEqual(acting(text, ("a", [], 0)), [1, 2])
        self.assertEqual(acting(text, ("a", ["a"], 0)), [0])
        self.assertEqual(acting("", ("a", [], 0)), [])
        self.assertEqual(sort("", ("a", ["b"], 3)), ([], [], []))


class Letters(unittest.TestCase):

    def test_edges(self):
        for letter in (("a", [], 0), ("a", [], 99999), ("abcdefghij", ["abcdefghij", "z"], 1), ("if", ["then"] * 500, 0)):
            self.assertEqual(sort("if any then file a", letter), (["a"], [], []))

    def test_no_letter(self):
        for thing in NO_LETTER:
            self.assertRaises(BadLetter, sort, "if any then stop", thing)
            self.assertRaises(BadLetter, acting, "", thing)

    def test_nothing_is_changed_and_all_is_new(self):
        words = ["a", "b"]
        text = "if any then file a, mark b, pass c"
        first = sort(text, ("a", words, 0))
        self.assertIs(type(first), tuple)
        self.assertEqual([type(part) for part in first], [list, list, list])
        for part in first:
            part.append("q")
        self.assertEqual(words, ["a", "b"])
        self.assertEqual(sort(text, ("a", words, 0)), (["a"], ["b"], ["c"]))
        acting(text, ("a", words, 0)).append(7)
        self.assertEqual(acting(text, ("a", words, 0)), [0])


if __name__ == "__main__":
    unittest.main()
