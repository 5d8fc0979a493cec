"""Texts at the limits of the document: each call gives its answer there, soon."""

import random
import time
import unittest

import plain
from drawn import drawn_row
from sortpost.all_letters import acts, apart, counts, reaching, thin, unfiled
from sortpost.houses import House, ring
from sortpost.sorting import acting, sort

SIGNS = "abcdefghijklmnopqrstuvwxyz"
WORDS = ["a", "b", "c", "d"]
PAIRS = [f"pair {one} {other}" for one in WORDS for other in WORDS]
FACTS = PAIRS + [f"{kind} {word}" for word in WORDS for kind in ("has", "first", "last")]
LONGEST = ["a", "a", "b", "a", "c", "a", "d", "b", "b", "c", "b", "d", "c", "c", "d", "d", "a"]
SOON = 20


def name(number):
    return SIGNS[number // 26 % 26] + SIGNS[number % 26]


def toggle(fact, mark="p"):
    """Rules that turn a mark if a fact holds."""
    return (f"if {fact} and marked {mark} then unmark {mark}, mark turned\n"
            f"if {fact} and not marked {mark} and not marked turned then mark {mark}\n"
            f"if any then unmark turned\n")


def text_of_rows(rows):
    return "".join(row + "\n" for row in rows)


def drawn_rows(seed, many, depth=3):
    chance = random.Random(seed)
    return [drawn_row(chance, WORDS, ["x", "y", "z"], depth) for _ in range(many)]


class Soon(unittest.TestCase):

    def setUp(self):
        self.start = time.perf_counter()

    def tearDown(self):
        self.assertLess(time.perf_counter() - self.start, SOON)


class FourNames(Soon):

    def test_all_pairs(self):
        text = (f"if {' and '.join(PAIRS[:12])} then mark m\nif marked m and {' and '.join(PAIRS[12:])} then file x\n"
                "if marked m and not has a then file y\n")
        self.assertEqual(reaching(text, "x"), ("a", LONGEST, 0))
        self.assertEqual(acts(text), [acts(text)[0], ("a", LONGEST, 0), None])
        self.assertEqual(counts(text)[1:], [("a", LONGEST, 0), None])
        self.assertEqual(apart(text, text.replace("file x", "pass x")), ("a", LONGEST, 0))
        self.assertEqual(sort(text, ("a", LONGEST, 0))[0], ["x"])

    def test_all_pairs_within_other_words(self):
        text = (f"if {' and '.join(PAIRS[:12])} then mark m\nif marked m and {' and '.join(PAIRS[12:])} and "
                "not first a and not first b and not first c and not first d then mark n\n"
                "if marked n and not (last a or last b or last c or last d) and from z and over 99998 then file x\n")
        self.assertEqual(reaching(text, "x"), ("z", ["e", *LONGEST, "e"], 99999))

    def test_no_pairs_of_all_words(self):
        none = " and not ".join(PAIRS[:10])
        more = " and not ".join(PAIRS[10:])
        text = (f"if not {none} then mark m\nif marked m and not {more} then mark n\n"
                "if marked n and has a and has b and has c and has d and first d and last d then file x\n")
        self.assertEqual(reaching(text, "x"), ("a", ["d", "e", "a", "e", "b", "e", "c", "e", "d"], 0))

    def test_whether_the_facts_are_even(self):
        text = "".join(toggle(fact) for fact in FACTS)
        backwards = "".join(toggle(fact) for fact in FACTS[::-1])
        self.assertIsNone(apart(text, backwards))
        self.assertEqual(apart(text, backwards + "if has b and last d and not marked p then file x"),
                         ("a", ["b", "b", "d"], 0))
        told = counts(text)
        self.assertEqual(told, [apart(text, text_of_rows(plain.without(text.splitlines(), number)))
                                for number in range(len(told))])
        self.assertIsNone(apart(text, thin(text)))

    def test_exactly_one_letter_of_all_facts(self):
        chance = random.Random(5)
        for _ in range(5):
            words = [chance.choice(WORDS + ["e"]) for _ in range(12)]
            kept = [acting(f"if {fact} then stop", ("a", words, 0)) == [0] for fact in FACTS]
            facts = [fact if holds else "not " + fact for fact, holds in zip(FACTS, kept)]
            text = "".join(f"if not ({fact}) then mark m\n" for fact in facts) + "if not marked m then file x\n"
            letter = reaching(text, "x")
            self.assertEqual(sort(text, letter)[0], ["x"])
            self.assertLessEqual((len(letter[1]), letter[1]), (12, words))

    def test_rows_of_60_words(self):
        for row in ("if " + "not " * 54 + "has a then file x", "if " + "not (" * 18 + "has a" + ")" * 18 + " then file x",
                    "if " + "has a and " * 18 + "has a then file x", "if " + "has a or " * 18 + "has a then file x"):
            self.assertEqual(acts(row), [("a", ["a"], 0)])
            self.assertIsNone(apart(row, "if has a then file x"))


class ManyRules(Soon):

    def test_drawn_rows(self):
        for seed, many in ((1, 20), (2, 40), (3, 60)):
            rows = drawn_rows(seed, many)
            text = text_of_rows(rows)
            told = counts(text)
            for number in range(many):
                other = text_of_rows(plain.without(rows, number))
                self.assertEqual(apart(text, other), told[number], (seed, number))
            left = thin(text)
            self.assertIsNone(apart(text, left))
            self.assertNotIn(None, counts(left))
            for number, letter in enumerate(acts(text)):
                if letter is not None:
                    self.assertIn(number, acting(text, letter))

    def test_many_senders_and_sizes(self):
        rows = [f"if from s{name(at)} and over {at * 100} then file f{name(at)}, stop" for at in range(400)]
        text = text_of_rows(rows)
        self.assertEqual(acts(text), [("s" + name(at), [], at * 100 + 1) for at in range(400)])
        self.assertEqual(counts(text), acts(text))
        self.assertEqual(thin(text), text)
        self.assertIsNone(apart(text, text_of_rows(rows[::-1])))
        self.assertEqual(apart(text, text_of_rows(rows[:-1])), ("s" + name(399), [], 39901))

    def test_senders_times_sizes(self):
        text = "".join(toggle(f"(from s{name(at)} or over {at * 7})") for at in range(100))
        backwards = "".join(toggle(f"(over {at * 7} or from s{name(at)})") for at in range(99, -1, -1))
        self.assertIsNone(apart(text, backwards))
        self.assertEqual(apart(text, backwards + "if from szz and over 693 and not marked p then file x"), ("szz", [], 694))

    def test_a_chain_of_marks(self):
        rows = ["if has a then mark maa"]
        rows += [f"if marked m{name(at)} and {FACTS[at % 16]} then mark m{name(at + 1)}" for at in range(200)]
        text = text_of_rows([*rows, f"if marked m{name(200)} then file x"])
        self.assertEqual(reaching(text, "x"), ("a", LONGEST, 0))
        self.assertEqual(counts(text)[-1], ("a", LONGEST, 0))
        self.assertEqual(thin(text), text)
        self.assertEqual(unfiled(text), ("a", [], 0))

    def test_two_of_each(self):
        rows = [f"if pair a b and over {at} then mark m{name(at)}, file f{name(at % 20)}" for at in range(100)]
        text = text_of_rows([row for row in rows for _ in range(2)])
        self.assertEqual(counts(text), [None] * 200)
        self.assertEqual(thin(text), text_of_rows(rows))

    def test_many_turns(self):
        rows = [f"if over {at} and {FACTS[at % 28]} then file f{name(at)}" for at in range(150)]
        one, other = text_of_rows(rows), text_of_rows(rows[::-1])
        letter = apart(one, other)
        first = plain.first(plain.short_letters(plain.plain_rules(one), 1),
                            lambda letter: len(sort(one, letter)[0]) > 1)
        self.assertEqual(letter, first)


class Houses(Soon):

    def test_a_ring_through_all_five(self):
        people = ["ann", "bob", "cyd", "dan", "eve"]
        house = {}
        for at, person in enumerate(people):
            facts = " and ".join(PAIRS[at * 3:at * 3 + 3 + (at == 4)])
            house[person] = f"if {facts} and over {at * 9} and not from a then pass {people[(at + 1) % 5]}"
        for at, person in enumerate(people):
            path = [*people[at:], *people[:at], person]
            self.assertEqual(ring(house, person), (("b", LONGEST, 37), path))

    def test_many_rules_each(self):
        people = ["x", "y", "z", "w", "v"]
        house = {person: text_of_rows(drawn_rows(at, 30)) for at, person in enumerate(people)}
        rules = {person: plain.plain_rules(house[person]) for person in people}
        for person in people:
            told = ring(house, person)
            if told is not None:
                self.assertEqual(told[1], plain.plain_ring(rules, person, told[0]))

    def test_many_letters(self):
        house = House({person: text_of_rows(drawn_rows(at, 20)) for at, person in enumerate("xyzwv")})
        chance = random.Random(1)
        for number in range(200):
            letter = (chance.choice("ab"), [chance.choice(WORDS) for _ in range(chance.randrange(6))], chance.randrange(20))
            self.assertEqual(house.deliver("x", letter), number)
        self.assertEqual(house.twin().way(199), house.way(199))


if __name__ == "__main__":
    unittest.main()
