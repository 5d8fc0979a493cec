"""What is told of all letters, held against plain searches."""

import random
import unittest

import plain
from drawn import drawn_text, drawn_turns
from sortpost.all_letters import acts, apart, counts, reaching, thin, unfiled
from sortpost.houses import ring
from sortpost.rules import written
from sortpost.sorting import acting, sort

FOLDERS = ["x", "y", "z"]


def changed(chance, text):
    """Another text that is much like this one."""
    rows = text.splitlines()
    kind = chance.randrange(4)
    if kind == 0:
        chance.shuffle(rows)
    elif kind == 1 and rows:
        rows.pop(chance.randrange(len(rows)))
    elif kind == 2 and rows:
        rows.insert(chance.randrange(len(rows)), chance.choice(rows))
    else:
        return drawn_text(chance, chance.randint(0, 4), ["a", "b"], FOLDERS)
    return "\n".join(rows)


class Exact(unittest.TestCase):
    """All letters of up to two names of words are gone through, so None is held against, too."""

    def check_one(self, chance, words):
        text = drawn_text(chance, chance.randint(0, 5), words, FOLDERS)
        rules = plain.plain_rules(text)
        letters = list(plain.unlike_letters(rules))
        runs = [plain.plain_run(rules, letter) for letter in letters]

        def first(test):
            return next((letter for letter, run in zip(letters, runs) if test(letter, run)), None)

        expected = [first(lambda letter, run: number in run[1]) for number in range(len(rules))]
        self.assertEqual(acts(text), expected, text)
        expected = []
        for number in range(len(rules)):
            rest = plain.without(rules, number)
            expected.append(first(lambda letter, run: plain.outcome(rest, letter) != run[0]))
        self.assertEqual(counts(text), expected, text)
        self.assertEqual(unfiled(text), first(lambda letter, run: not run[0][0]), text)
        expected = first(lambda letter, run: "x" in run[0][0] or "x" in run[0][2])
        self.assertEqual(reaching(text, "x"), expected, text)
        return text, rules, letters

    def check_two(self, chance, words, text, rules):
        other = changed(chance, text)
        others = plain.plain_rules(other)
        letters = plain.unlike_letters(rules + others)
        expected = plain.first(letters, lambda letter: plain.outcome(rules, letter) != plain.outcome(others, letter))
        self.assertEqual(apart(text, other), expected, (text, other))
        self.assertEqual(apart(other, text), expected, (other, text))

    def test_drawn_texts(self):
        for seed in range(120):
            chance = random.Random(seed)
            words = chance.choice([["a"], ["a", "b"], ["b", "aa"], ["if", "c"]])
            text, rules, letters = self.check_one(chance, words)
            self.check_two(chance, words, text, rules)

    def test_thin(self):
        for seed in range(60):
            chance = random.Random(1000 + seed)
            text = drawn_text(chance, chance.randint(1, 5), ["a"], FOLDERS, 1)
            rules = plain.plain_rules(text)
            rows = written(text).splitlines()
            left = plain.plain_thin(rules, plain.unlike_letters(rules))
            self.assertEqual(thin(text), "".join(rows[number] + "\n" for number in left), text)

    def test_rings(self):
        found = 0
        for seed in range(80):
            chance = random.Random(2000 + seed)
            names = ["x", "y", "z", "w"][:chance.randint(1, 4)]
            house = {name: drawn_text(chance, chance.randint(1, 4), ["a"], FOLDERS + ["w"]) for name in names}
            people = {name: plain.plain_rules(house[name]) for name in names}
            everything = [rule for rules in people.values() for rule in rules]
            for name in names:
                expected = None
                for letter in plain.unlike_letters(everything):
                    path = plain.plain_ring(people, name, letter)
                    if path is not None:
                        expected = letter, path
                        break
                self.assertEqual(ring(house, name), expected, (house, name))
                found += expected is not None
        self.assertGreater(found, 20)


class Short(unittest.TestCase):
    """With three and four names, all letters of up to three words are gone through."""

    most = 3

    def agree(self, told, expected, test, what):
        if expected is None and told is not None:
            self.assertGreater(len(told[1]), self.most, what)
            self.assertTrue(test(told), what)
        else:
            self.assertEqual(told, expected, what)

    def check(self, told, rules, test, what):
        self.agree(told, plain.first(plain.short_letters(rules, self.most), test), test, what)

    def test_drawn_texts(self):
        for seed in range(30):
            chance = random.Random(3000 + seed)
            words = chance.choice([["a", "b", "c"], ["b", "d", "aa", "z"]])
            text = drawn_text(chance, chance.randint(1, 4), words, FOLDERS)
            other = changed(chance, text)
            rules, others = plain.plain_rules(text), plain.plain_rules(other)
            if len({name for rule in rules + others for fact in rule.facts for name in fact[1:]
                    if fact[0] in ("has", "first", "last", "pair")}) > 4:
                continue
            self.check(apart(text, other), rules + others,
                       lambda letter: plain.outcome(rules, letter) != plain.outcome(others, letter), (text, other))
            for number, letter in enumerate(acts(text)):
                self.check(letter, rules, lambda letter: number in plain.plain_run(rules, letter)[1], text)
            for number, letter in enumerate(counts(text)):
                rest = plain.without(rules, number)
                self.check(letter, rules,
                           lambda letter: plain.outcome(rules, letter) != plain.outcome(rest, letter), text)
            self.check(unfiled(text), rules, lambda letter: not plain.outcome(rules, letter)[0], text)
            self.check(reaching(text, "y"), rules,
                       lambda letter: "y" in plain.outcome(rules, letter)[0] + plain.outcome(rules, letter)[2], text)

    def test_long_letters_are_exact_with_three_names(self):
        text = ("if pair a b and pair b c and pair c a then mark m\nif marked m and pair a c and not pair c c "
                "and not pair a a then mark n\nif marked n and first c and last c and from bob and over 9 then file x\n")
        rules = plain.plain_rules(text)
        expected = plain.first(plain.unlike_letters(rules), lambda letter: plain.outcome(rules, letter)[0])
        self.assertEqual(reaching(text, "x"), expected)
        self.assertEqual(acts(text)[2], expected)
        self.assertGreater(len(expected[1]), 4)


class Turns(unittest.TestCase):
    """Names are told by many rules, so that what parts texts is often their turns alone."""

    def test_counts_and_thin(self):
        for seed in range(400):
            rows = drawn_turns(random.Random(5000 + seed), 3 + seed % 8)
            text = "\n".join(rows)
            rules = plain.plain_rules(text)
            letters = list(plain.unlike_letters(rules))
            results = [plain.outcome(rules, letter) for letter in letters]
            expected = []
            for number in range(len(rules)):
                rest = plain.without(rules, number)
                unlike = [letter for letter, result in zip(letters, results) if plain.outcome(rest, letter) != result]
                expected.append(unlike[0] if unlike else None)
            self.assertEqual(counts(text), expected, text)
            left = plain.plain_thin(rules, letters)
            self.assertEqual(thin(text), "".join(rows[number] + "\n" for number in left), text)

    def test_apart(self):
        for seed in range(400):
            chance = random.Random(6000 + seed)
            rows = drawn_turns(chance, 3 + seed % 8)
            others = list(rows)
            for _ in range(chance.randint(1, 2)):
                at = chance.randrange(len(others) - 1)
                others[at], others[at + 1] = others[at + 1], others[at]
            if chance.random() < 0.3:
                others.insert(chance.randrange(len(others)), chance.choice(rows))
            one, other = "\n".join(rows), "\n".join(others)
            rules, other_rules = plain.plain_rules(one), plain.plain_rules(other)
            expected = plain.first(plain.unlike_letters(rules + other_rules),
                                   lambda letter: plain.outcome(rules, letter) != plain.outcome(other_rules, letter))
            self.assertEqual(apart(one, other), expected, (one, other))


class One(unittest.TestCase):
    """One letter at a time."""

    def test_drawn_texts(self):
        for seed in range(60):
            chance = random.Random(4000 + seed)
            text = drawn_text(chance, chance.randint(0, 6), ["a", "b"], FOLDERS)
            rules = plain.plain_rules(text)
            for letter in plain.short_letters(rules, 2):
                result, numbers = plain.plain_run(rules, letter)
                self.assertEqual(sort(text, letter), result, (text, letter))
                self.assertEqual(acting(text, letter), numbers, (text, letter))


if __name__ == "__main__":
    unittest.main()
