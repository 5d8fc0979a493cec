"""Texts of rules: what is one, what is refused, how they are written."""

import ast
import random
import unittest

from drawn import drawn_row, drawn_text
from sortpost.all_letters import acts, apart, counts, reaching, thin, unfiled
from sortpost.errors import BadHouse, BadLetter, BadName, BadRule, BadText, TooMany
from sortpost.houses import House, ring
from sortpost.rules import names, written
from sortpost.sorting import acting, sort
from wrong import NO_TEXT

LETTER = ("a", [], 0)


def taught(rules):
    return House({"ann": ""}).teach("ann", rules)


# Every function and method that takes a text, with all else that it takes in order.
TAKE_TEXT = [
    written, names, acts, counts, thin, unfiled, taught,
    lambda rules: sort(rules, LETTER), lambda rules: acting(rules, LETTER),
    lambda rules: apart(rules, ""), lambda rules: apart("", rules), lambda rules: apart(rules, rules),
    lambda rules: reaching(rules, "a"),
]
TAKE_HOUSE_TEXT = [
    lambda rules: ring({"ann": rules}, "ann"), lambda rules: House({"ann": rules}),
    lambda rules: ring({"ann": "", "bob": rules}, "ann"), lambda rules: House({"ann": "", "bob": rules}),
]
# The text makes the same refusal where all else is wrong, too.
TAKE_TEXT_FIRST = [
    lambda rules: sort(rules, None), lambda rules: acting(rules, ["a", [], 0]), lambda rules: reaching(rules, "A"),
    lambda rules: reaching(rules, []), lambda rules: apart(rules, None), lambda rules: apart(rules, "if"),
]


def fault(text, call=written):
    """The row and the word of a refusal, or None."""
    try:
        call(text)
    except BadRule as error:
        return error.row, error.word
    return None


def is_condition(words):
    """Tells whether words are a condition, by Python's own grammar."""
    row = []
    at = 0
    while at < len(words):
        many = {"pair": 2, "from": 1, "has": 1, "first": 1, "last": 1, "marked": 1, "over": 1, "any": 0}.get(words[at])
        if many is None:
            if words[at] not in ("not", "and", "or", "(", ")"):
                return False
            row.append(words[at])
            many = 0
        else:
            row.append("1")
            for word in words[at + 1:at + 1 + many]:
                if words[at] == "over" and not (word.isdigit() and len(word) <= 5 and str(int(word)) == word):
                    return False
                if words[at] != "over" and not (word.isalpha() and word.islower() and len(word) <= 10):
                    return False
            if at + many >= len(words):
                return False
        at += 1 + many
    try:
        tree = ast.parse(" ".join(row), mode="eval")
    except SyntaxError:
        return False
    nodes = (ast.Expression, ast.BoolOp, ast.UnaryOp, ast.Constant, ast.And, ast.Or, ast.Not, ast.Load)
    return all(isinstance(node, nodes) for node in ast.walk(tree))


def is_deeds(words):
    for deed in " ".join(words).split(" , "):
        parts = deed.split(" ")
        if parts != ["stop"] and not (len(parts) == 2 and parts[0] in ("mark", "unmark", "file", "pass")
                                      and parts[1].isalpha() and parts[1].islower() and len(parts[1]) <= 10):
            return False
    return True


def is_rule(words):
    return words[:1] == ["if"] and any(
        word == "then" and is_condition(words[1:at]) and is_deeds(words[at + 1:]) for at, word in enumerate(words))


def begins(words):
    """Tells whether some rule begins with these words, by trying many ends."""
    deeper = words.count("(") - words.count(")")
    for more in ([], ["if", "any"], ["any"], ["a"], ["a", "a"], ["0"], ["and", "any"], ["stop"], ["then", "stop"]):
        for closing in {0, max(deeper, 0)}:
            for last in ([], ["then", "stop"], [",", "stop"]):
                if is_rule(words + more + [")"] * closing + last):
                    return True
    return False


class Reading(unittest.TestCase):

    def test_rules_of_all_kinds(self):
        for row in (
                "if any then stop", "if from bob then mark a", "if has a then unmark a", "if first a then file a",
                "if last a then pass a", "if pair a b then stop", "if over 0 then stop", "if over 99999 then stop",
                "if marked m then stop", "if not any then stop", "if not not has a then stop",
                "if not (has a or has b) then stop", "if has a and has b or has c and not has d then stop",
                "if ((((any)))) then stop", "if any then stop, stop, file a, file a", "if from abcdefghij then stop",
                "if not not not not any and not (not any) then stop"):
            self.assertEqual(written(row), row + "\n")

    def test_blanks_are_free_beside_signs(self):
        self.assertEqual(written("  if(has a)then stop,file b  "), "if (has a) then stop, file b\n")
        self.assertEqual(written("if  not(  ( has   a)and(any ))then file b ,mark c,stop"),
                         "if not ((has a) and (any)) then file b, mark c, stop\n")

    def test_names_that_are_words_of_rules(self):
        for word in ("if", "then", "any", "from", "has", "first", "last", "pair", "over", "marked", "not", "and",
                     "or", "mark", "unmark", "file", "pass", "stop", "a", "abcdefghij"):
            row = f"if from {word} and has {word} or not pair {word} {word} and marked {word} then file {word}, mark {word}"
            self.assertEqual(written(row), row + "\n")
            self.assertEqual(names(row), [word])
            self.assertEqual(sort(row, (word, [word], 0)), ([word], [word], []))

    def test_rows_that_say_nothing(self):
        text = "\n   \n# if any then stop\n#\nif any then file a\n#if\n\nif any then file b\n\n"
        self.assertEqual(written(text), "if any then file a\nif any then file b\n")
        self.assertEqual(acting(text, LETTER), [0, 1])
        self.assertEqual(written(""), "")
        self.assertEqual(written("\n \n#x"), "")
        self.assertEqual(names(""), [])

    def test_written_again_is_the_same(self):
        for seed in range(50):
            text = drawn_text(random.Random(seed), 4, ["a", "b"], ["x", "y"], 3)
            once = written(text.replace(" ", "   ").replace("(", " ( ").replace(",", " ,"))
            self.assertEqual(written(once), once)
            self.assertEqual(once, written(text))

    def test_names(self):
        text = ("if has file then pass zz, file b, mark q\nif pair file pass then file aa, stop, pass c\n"
                "if from file and first pass then unmark r, file b\n")
        self.assertEqual(names(text), ["b", "c", "aa", "zz"])
        self.assertEqual(names("if any then stop"), [])

    def test_what_is_told_is_new(self):
        names("if any then file a").append("b")
        self.assertEqual(names("if any then file a"), ["a"])


class BadRules(unittest.TestCase):

    def test_first_word_with_which_no_rule_begins(self):
        for row, word in (
                ("x", 0), ("If any then stop", 0), ("then", 0), ("if", 1), ("if if", 1), ("if then stop", 1),
                ("if any", 2), ("if any any", 2), ("if any then", 3), ("if any then stop stop", 4),
                ("if any then stop,", 5), ("if any then stop,,", 5), ("if any then , stop", 3),
                ("if any then mark", 4), ("if any then mark A", 4), ("if any then mark a b", 5),
                ("if any then stop a", 4), ("if any then mark a, b", 6), ("if any then go a", 3),
                ("if from", 2), ("if from 1 then stop", 2), ("if from a b then stop", 3), ("if from ( then stop", 2),
                ("if has abcdefghijk then stop", 2), ("if has a, has b then stop", 3),
                ("if pair a then stop", 4), ("if pair a b c then stop", 4), ("if pair a", 3),
                ("if over then stop", 2), ("if over 07 then stop", 2), ("if over 00 then stop", 2),
                ("if over 100000 then stop", 2), ("if over -1 then stop", 2), ("if over a then stop", 2),
                ("if over 1 2 then stop", 3), ("if over 0x1 then stop", 2), ("if over 1.0 then stop", 2),
                ("if not then stop", 2), ("if not", 2), ("if any not any then stop", 2), ("if and any then stop", 1),
                ("if any and then stop", 3), ("if any and or any then stop", 3), ("if any or", 3),
                ("if () then stop", 2), ("if (any then stop", 3), ("if (any)) then stop", 4), ("if any) then stop", 2),
                ("if ((any) then stop", 5), ("if any (any) then stop", 2), ("if (any) any then stop", 4),
                ("if has(a) then stop", 2), ("if any then (stop)", 3), ("if any then stop)", 4), ("if any then stop #x", 4),
                (" # no rule", 0), (",", 0), ("if any then file a then stop", 5), ("if any and if any then stop", 3),
                ("if marked then stop", 3), ("if marked then then stop", None), ("if any then file file", None)):
            self.assertEqual(fault(row), None if word is None else (0, word), row)

    def test_rows_are_all_counted(self):
        self.assertEqual(fault("\n# x\n \nif any then stop\nif x\nif"), (4, 1))
        self.assertEqual(fault("if any then stop\n\n\nx"), (3, 0))

    def test_rows_of_60_and_of_61_words(self):
        for row in ("if " + "any and " * 28 + "any then stop", "if " + "not " * 54 + "has a then file b",
                    "if any then " + "stop, " * 28 + "stop", "if " + "(" * 28 + "any" + ")" * 28 + " then stop"):
            self.assertIsNone(fault(row))
            self.assertEqual(fault(row + ","), (0, 60))
            self.assertEqual(fault(row + ", stop"), (0, 60))
            self.assertEqual(fault(row + " x"), (0, 60))
        row = "if " + "not " * 55 + "has a then file b"
        self.assertEqual(fault(row), (0, 60))
        self.assertEqual(fault("if " + "not " * 58), (0, 59))
        self.assertEqual(fault("if " + "not " * 59), (0, 60))
        self.assertEqual(fault("if " + "not " * 60), (0, 60))
        self.assertEqual(fault("if " + "not " * 5000), (0, 60))
        self.assertEqual(fault("if " + "(" * 5000), (0, 60))
        self.assertEqual(fault("if " + "not " * 58 + "then"), (0, 59))
        self.assertEqual(fault("if " + "not " * 59 + "then"), (0, 60))
        self.assertEqual(fault("if any then " + "stop, " * 100 + "x"), (0, 60))
        self.assertEqual(fault("if any any " + "x " * 100), (0, 2))

    def test_drawn_rows_with_a_fault(self):
        chance = random.Random(1)
        words = ["if", "any", "then", "not", "and", "or", "(", ")", ",", "has", "pair", "over", "stop", "file", "a", "7"]
        for _ in range(1500):
            row = drawn_row(chance, ["a"], ["x"], 1).replace("(", " ( ").replace(")", " ) ").replace(",", " , ").split()
            at = chance.randrange(len(row) + 1)
            if chance.random() < 0.5:
                row = row[:at] + [chance.choice(words)] + row[at + (chance.random() < 0.5):]
            else:
                row = row[:at] + row[at + 1:]
            if not row or len(row) > 60:
                continue
            told = fault(" ".join(row))
            if told is None:
                self.assertTrue(is_rule(row), row)
            else:
                self.assertFalse(is_rule(row), row)
                word = told[1]
                self.assertTrue(begins(row[:word]), (row, word))
                self.assertTrue(word == len(row) or not begins(row[:word + 1]), (row, word))


class Refusals(unittest.TestCase):

    def test_no_text(self):
        for thing in NO_TEXT:
            for call in TAKE_TEXT + TAKE_TEXT_FIRST:
                self.assertRaises(BadText, call, thing)
            for call in TAKE_HOUSE_TEXT:
                self.assertRaises(BadHouse, call, thing)

    def test_bad_rule(self):
        for call in TAKE_TEXT + TAKE_TEXT_FIRST + TAKE_HOUSE_TEXT:
            self.assertEqual(fault("if any then stop\nif has a, then stop", call), (1, 3))

    def test_too_many_names(self):
        four = "if has a and first b then stop\nif last c or pair d a then stop\nif from e and marked f then file g\n"
        five = four + "if has a or has e then stop\n"
        for call in TAKE_TEXT + TAKE_HOUSE_TEXT:
            call(four)
            self.assertRaises(TooMany, call, five)
        for call in TAKE_TEXT_FIRST:
            self.assertRaises(TooMany, call, five)
        self.assertRaises(TooMany, written, "if pair a b and pair c d and pair d e then stop")

    def test_bad_rule_ahead_of_too_many(self):
        text = "if has a or has b or has c or has d or has e then stop\nif"
        for call in TAKE_TEXT + TAKE_TEXT_FIRST + TAKE_HOUSE_TEXT:
            self.assertEqual(fault(text, call), (1, 1))

    def test_of_two_texts_the_first_one_first(self):
        five = "if has a or has b or has c or has d or has e then stop"
        self.assertRaises(BadText, apart, None, "if")
        self.assertRaises(BadText, apart, None, five)
        self.assertRaises(BadRule, apart, "if", None)
        self.assertRaises(TooMany, apart, five, None)
        self.assertRaises(TooMany, apart, five, "if")
        self.assertRaises(BadText, apart, "", None)
        with self.assertRaises(BadRule) as caught:
            apart("if any", "if")
        self.assertEqual(caught.exception.word, 2)

    def test_two_texts_together_speak_of_four_names(self):
        self.assertIsNone(apart("if has a and has b then stop", "if has c and has d then stop"))
        self.assertIsNone(apart("if has a and has b and has c then stop", "if has c and has d then stop"))
        self.assertRaises(TooMany, apart, "if has a and has b and has c then stop", "if has d and has e then stop")

    def test_then_the_letter_or_the_name(self):
        self.assertRaises(BadLetter, sort, "", None)
        self.assertRaises(BadLetter, acting, "", None)
        self.assertRaises(BadName, reaching, "", None)


if __name__ == "__main__":
    unittest.main()
