"""What is told of all letters: ordinary texts, the edges, refusals."""

import unittest

from sortpost.all_letters import acts, apart, counts, reaching, thin, unfiled
from sortpost.errors import BadName
from wrong import NO_NAME


class Apart(unittest.TestCase):

    def test_alike(self):
        for one, other in (
                ("", ""), ("", "if any then unmark m"), ("", "if not any then file x"), ("", "if over 99999 then file x"),
                ("", "if has a and not has a then stop, file b"), ("", "if marked m then file x"), ("", "if any then stop"),
                ("if any then mark a, mark b", "if any then mark b, mark a"),
                ("if any then file a, file b, file a", "if any then file a\nif any then file b"),
                ("if not (has a or has b) then file x", "if not has a and not has b then file x"),
                ("if pair a b then file x", "if pair a b and has a and has b then file x"),
                ("if first a then file x", "if has a and first a then file x"),
                ("if over 3 and over 7 then pass x", "if over 7 then pass x"),
                ("", "if from a and from b then file x"), ("", "if first a and first b then file x"),
                ("", "if last a and not has a then file x"), ("", "if pair a b and not has b then file x"),
                ("if any then stop", "if any then stop\nif any then file x"),
                ("if has a then mark m\nif marked m then file x, unmark m", "if has a then file x")):
            self.assertIsNone(apart(one, other), (one, other))
            self.assertIsNone(apart(other, one), (one, other))

    def test_first_letter(self):
        for one, other, letter in (
                ("", "if any then mark m", ("a", [], 0)),
                ("", "if any then pass m", ("a", [], 0)),
                ("if any then file a, file b", "if any then file b, file a", ("a", [], 0)),
                ("if any then pass a, pass b", "if any then pass b, pass a", ("a", [], 0)),
                ("", "if from b then file x", ("b", [], 0)),
                ("", "if not from a then file x", ("b", [], 0)),
                ("", "if not from a and not from b then file x", ("c", [], 0)),
                ("", "if over 0 then file x", ("a", [], 1)),
                ("", "if over 99998 then file x", ("a", [], 99999)),
                ("", "if has bob then file x", ("a", ["bob"], 0)),
                ("", "if last b and first a then file x", ("a", ["a", "b"], 0)),
                ("", "if has b and has a then file x", ("a", ["a", "b"], 0)),
                ("", "if pair a a then file x", ("a", ["a", "a"], 0)),
                ("", "if has a and not first a then file x", ("a", ["b", "a"], 0)),
                ("", "if has a and not first a and not last a then file x", ("a", ["b", "a", "b"], 0)),
                ("", "if has b and not last b then file x", ("a", ["b", "a"], 0)),
                ("", "if pair a b and pair b a and not first a then file x", ("a", ["b", "a", "b"], 0)),
                ("", "if first a and last a and has b and not pair a b then file x", ("a", ["a", "c", "b", "a"], 0)),
                ("if has a then file x", "if has a and from b or has a and over 7 then file x", ("a", ["a"], 0)),
                ("if from z then file x", "if from z or over 7 and not from a then file x", ("b", [], 8))):
            self.assertEqual(apart(one, other), letter, (one, other))
            self.assertEqual(apart(other, one), letter, (one, other))

    def test_words_then_sender_then_size(self):
        self.assertEqual(apart("", "if from b and has a or from a and over 8 and last a then mark m"), ("a", ["a"], 9))
        self.assertEqual(apart("", "if from z and over 99998 or has a and from a then mark m"), ("z", [], 99999))
        self.assertEqual(apart("", "if from b or over 5 then mark m"), ("a", [], 6))

    def test_names_by_length_first(self):
        self.assertEqual(apart("", "if has aa or has b then file x"), ("a", ["b"], 0))
        self.assertEqual(apart("", "if from aa or from b then file x"), ("b", [], 0))
        self.assertEqual(apart("", "if (has aa or has z) and (from ab or from y) then file x"), ("y", ["z"], 0))

    def test_least_name_that_no_rule_speaks_of(self):
        senders = " and ".join(f"not from {sign}" for sign in "abcdefghijklm")
        more = " and ".join(f"not from {sign}" for sign in "nopqrstuvwxyz")
        text = f"if {senders} then mark m\nif marked m and {more} then file x"
        self.assertEqual(reaching(text, "x"), ("aa", [], 0))
        text = text.replace("then mark", "and not from aa then mark")
        self.assertEqual(reaching(text, "x"), ("ab", [], 0))
        self.assertEqual(apart("", "if has a and has b and not (first a or first b) then mark m"), ("a", ["c", "a", "b"], 0))

    def test_letters_are_new(self):
        first = apart("", "if pair a b then mark m")
        first[1].append("c")
        self.assertEqual(apart("", "if pair a b then mark m"), ("a", ["a", "b"], 0))
        self.assertIs(type(first), tuple)
        self.assertIs(type(first[1]), list)


class ActsAndCounts(unittest.TestCase):

    def test_acts(self):
        text = ("if has a then mark m\n\n# says nothing\nif marked m and not has a then stop\nif any then unmark q\n"
                "if not has a or over 9 then stop\nif marked m and over 9 then file x\nif any then file x\n")
        self.assertEqual(acts(text), [("a", ["a"], 0), None, ("a", [], 0), ("a", [], 0), None, ("a", ["a"], 0)])
        self.assertEqual(acts(""), [])
        self.assertEqual(acts("if not any then stop"), [None])

    def test_counts(self):
        text = ("if has a then mark m\nif any then unmark q\nif has a and over 3 then mark m, file x\n"
                "if marked m then file y\nif has a then file y\nif last a then file y, stop\nif any then stop")
        self.assertEqual(counts(text), [("a", ["a"], 0), None, ("a", ["a"], 4), None, None, None, None])
        self.assertEqual(counts(""), [])

    def test_counts_by_turns(self):
        text = "if has a then file x\nif any then file y\nif any then file x"
        self.assertEqual(counts(text), [("a", ["a"], 0), ("a", [], 0), ("a", [], 0)])
        text = "if has a then pass x\nif any then pass y\nif has a then pass x"
        self.assertEqual(counts(text), [("a", ["a"], 0), ("a", [], 0), None])

    def test_counts_by_turns_and_marks(self):
        later = "if any then file x\nif any then file y\n"
        for text, letter in (
                ("if any then file x, mark m\n" + later + "if marked m then file x\nif any then mark m", None),
                ("if any then file x, mark m\n" + later + "if not marked m then file x\nif any then mark m", None),
                ("if any then mark m\nif marked m then file x\n" + later + "if any then mark m", None),
                ("if any then mark m\nif not marked m then file x\n" + later + "if any then mark m", None),
                ("if any then mark m\nif not marked m then file y\n" + later + "if any then mark m", ("a", [], 0)),
                ("if any then mark m\nif marked m then file y\n" + later + "if any then mark m", ("a", [], 0)),
                ("if has a then mark m\nif marked m then stop\n" + later, ("a", ["a"], 0)),
                ("if has a then stop, mark m\n" + later, ("a", ["a"], 0))):
            self.assertEqual(counts(text)[0], letter, text)

    def test_counts_by_stop(self):
        self.assertEqual(counts("if has a then stop\nif over 5 then file x\nif from b then mark m"),
                         [("a", ["a"], 6), ("a", [], 6), ("b", [], 0)])
        self.assertEqual(counts("if has a then mark m, stop, file z\nif any then mark m"), [None, ("a", [], 0)])

    def test_one_of_each_rule_even_if_alike(self):
        self.assertEqual(acts("if any then stop\nif any then stop"), [("a", [], 0), None])
        self.assertEqual(counts("if any then mark m\nif any then mark m"), [None, None])

    def test_letters_are_new_each(self):
        for call in (acts, counts):
            told = call("if has a then mark m\nif has a then mark n")
            told[0][1].append("b")
            self.assertEqual(told[1], ("a", ["a"], 0))
            told.append(None)
            self.assertEqual(call("if has a then mark m\nif has a then mark n"), [("a", ["a"], 0), ("a", ["a"], 0)])


class Thin(unittest.TestCase):

    def test_first_one_is_left_out_first(self):
        self.assertEqual(thin("if any then mark m\nif   any then mark m"), "if any then mark m\n")
        self.assertEqual(thin("if over 1 then mark m\nif over 0 then mark m"), "if over 0 then mark m\n")
        self.assertEqual(thin("if over 0 then mark m\nif over 1 then mark m"), "if over 0 then mark m\n")

    def test_none_and_all(self):
        self.assertEqual(thin(""), "")
        self.assertEqual(thin("# x\n\nif any then stop\nif not any then file x"), "")
        self.assertEqual(thin("#\nif has a then file x , stop\n\nif (any)then file y"),
                         "if has a then file x, stop\nif (any) then file y\n")

    def test_earlier_rules_that_come_to_be_needless(self):
        text = "if any then mark m\nif not marked m then stop\nif any then unmark m\nif any then file x"
        self.assertEqual(counts(text)[0], ("a", [], 0))
        self.assertEqual(thin(text), "if any then file x\n")
        text = "if has a then mark m\nif has a and not marked m then stop\nif any then unmark m\nif has a then file x, file y"
        self.assertEqual(thin(text), "if has a then file x, file y\n")

    def test_rules_that_only_help_each_other(self):
        text = "if any then mark m\nif marked m then file x\nif any then file x, mark m"
        self.assertEqual(thin(text), "if any then file x, mark m\n")


class Reaching(unittest.TestCase):

    def test_unfiled(self):
        self.assertEqual(unfiled(""), ("a", [], 0))
        self.assertIsNone(unfiled("if any then file x"))
        self.assertEqual(unfiled("if any then pass x, mark y"), ("a", [], 0))
        self.assertEqual(unfiled("if not has a then file x\nif over 4 then file y"), ("a", ["a"], 0))
        self.assertIsNone(unfiled("if has a then file x\nif not has a then file y"))
        self.assertEqual(unfiled("if has a then stop\nif any then file y"), ("a", ["a"], 0))

    def test_reaching(self):
        text = "if has a then file x\nif over 6 then pass x\nif any then file y\nif any then stop\nif any then file z"
        self.assertEqual(reaching(text, "x"), ("a", [], 7))
        self.assertEqual(reaching(text, "y"), ("a", [], 0))
        self.assertIsNone(reaching(text, "z"))
        self.assertIsNone(reaching(text, "nobody"))
        self.assertIsNone(reaching("if any then mark x", "x"))
        self.assertEqual(reaching("if any then file if", "if"), ("a", [], 0))

    def test_no_name(self):
        for thing in NO_NAME:
            self.assertRaises(BadName, reaching, "if any then file x", thing)


if __name__ == "__main__":
    unittest.main()
