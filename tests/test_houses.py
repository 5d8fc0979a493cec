"""Houses and rings."""

import unittest

from sortpost.errors import BadHouse, BadLetter, BadName, BadRule, BadText, NoLetter, TooMany
from sortpost.houses import House, ring
from wrong import NO_HOUSE, NO_LETTER, NO_NAME, NO_NUMBER, NO_TEXT

FIVE_NAMES = "if has a or has b or has c or has d or has e then stop"


class Ring(unittest.TestCase):

    def test_of_one(self):
        self.assertEqual(ring({"ann": "if has a then pass ann"}, "ann"), (("a", ["a"], 0), ["ann", "ann"]))
        self.assertIsNone(ring({"ann": "if has a then pass bob"}, "ann"))
        self.assertIsNone(ring({"ann": ""}, "ann"))

    def test_of_two(self):
        house = {"ann": "if over 3 then pass bob", "bob": "if from z then pass ann, pass cyd"}
        self.assertEqual(ring(house, "ann"), (("z", [], 4), ["ann", "bob", "ann"]))
        self.assertEqual(ring(house, "bob"), (("z", [], 4), ["bob", "ann", "bob"]))

    def test_ring_that_begins_with_somebody_else(self):
        house = {"ann": "if any then pass bob", "bob": "if any then pass bob"}
        self.assertIsNone(ring(house, "ann"))
        self.assertEqual(ring(house, "bob"), (("a", [], 0), ["bob", "bob"]))

    def test_through_all_five(self):
        names = ["e", "d", "cc", "b", "a"]
        house = {name: f"if has {'wxyz'[at % 4]} and over {at} then pass {names[(at + 1) % 5]}"
                 for at, name in enumerate(names)}
        letter = ("a", ["w", "x", "y", "z"], 5)
        self.assertEqual(ring(house, "cc"), (letter, ["cc", "b", "a", "e", "d", "cc"]))
        self.assertEqual(ring(house, "e"), (letter, ["e", "d", "cc", "b", "a", "e"]))

    def test_first_letter_even_with_a_longer_ring(self):
        house = {"ann": "if has a then pass ann\nif any then pass bob", "bob": "if any then pass cyd",
                 "cyd": "if over 0 then pass ann"}
        self.assertEqual(ring(house, "ann"), (("a", [], 1), ["ann", "bob", "cyd", "ann"]))

    def test_fewest_people_then_in_order(self):
        house = {"b": "if any then pass dd, pass c", "dd": "if any then pass b", "c": "if any then pass b",
                 "a": "if any then pass b"}
        self.assertEqual(ring(house, "b"), (("a", [], 0), ["b", "c", "b"]))
        house = {"b": "if any then pass dd, pass e", "dd": "if any then pass a, pass e", "e": "if any then pass dd, pass a",
                 "a": "if any then pass b"}
        self.assertEqual(ring(house, "b"), (("a", [], 0), ["b", "e", "a", "b"]))
        house["b"] = "if any then pass dd, pass e, pass b"
        self.assertEqual(ring(house, "b"), (("a", [], 0), ["b", "b"]))

    def test_marks_do_not_travel(self):
        house = {"ann": "if any then mark m, pass bob", "bob": "if marked m then pass ann"}
        self.assertIsNone(ring(house, "ann"))

    def test_stop(self):
        house = {"ann": "if has a then stop\nif any then pass bob", "bob": "if has b then stop, pass ann\nif has c then pass ann"}
        self.assertEqual(ring(house, "ann"), (("a", ["c"], 0), ["ann", "bob", "ann"]))

    def test_names_that_are_words_of_rules(self):
        self.assertEqual(ring({"if": "if any then pass then", "then": "if any then pass if"}, "then"),
                         (("a", [], 0), ["then", "if", "then"]))

    def test_refusals(self):
        for thing in NO_HOUSE:
            self.assertRaises(BadHouse, ring, thing, None)
        self.assertRaises(TooMany, ring, {"ann": FIVE_NAMES}, None)
        self.assertRaises(BadRule, ring, {"ann": "if"}, None)
        together = {"ann": "if has a and has b and has c then stop", "bob": "if has d or has e then stop"}
        self.assertRaises(TooMany, ring, together, None)
        for thing in NO_NAME + ["bob"]:
            self.assertRaises(BadName, ring, {"ann": ""}, thing)

    def test_texts_by_the_names_in_order(self):
        with self.assertRaises(BadRule) as caught:
            ring({"aa": "if", "b": "if any", "c": ""}, "zz")
        self.assertEqual(caught.exception.word, 2)
        self.assertRaises(TooMany, ring, {"c": "if", "b": FIVE_NAMES}, "b")
        self.assertRaises(BadRule, ring, {"b": "if", "c": FIVE_NAMES}, "b")
        self.assertRaises(BadHouse, ring, {"b": "if", "c": None}, "b")

    def test_nothing_is_changed_and_all_is_new(self):
        house = {"ann": "if has a then pass ann"}
        told = ring(house, "ann")
        self.assertEqual([type(told), type(told[0]), type(told[1])], [tuple, tuple, list])
        told[0][1].append("b")
        told[1].append("b")
        self.assertEqual(ring(house, "ann"), (("a", ["a"], 0), ["ann", "ann"]))
        self.assertEqual(house, {"ann": "if has a then pass ann"})


def busy_house():
    return House({
        "ann": "if has a then pass bob, pass cyd, pass out\nif any then file all, mark m, pass ann",
        "bob": "if marked m then file wrong\nif over 5 then pass dan, pass out, file big",
        "cyd": "if any then pass bob, pass dan, file all",
        "dan": "if from z then pass ann, pass away",
    })


class Delivering(unittest.TestCase):

    def test_ways(self):
        house = busy_house()
        self.assertEqual(house.deliver("ann", ("a", ["a"], 0)), 0)
        self.assertEqual(house.deliver("ann", ("a", [], 9)), 1)
        self.assertEqual(house.deliver("cyd", ("z", ["a"], 99999)), 2)
        self.assertEqual(house.way(0), ["ann", "bob", "cyd", "dan"])
        self.assertEqual(house.way(1), ["ann"])
        self.assertEqual(house.way(2), ["cyd", "bob", "dan", "ann"])

    def test_nearer_people_first(self):
        house = House({"a": "if any then pass b, pass c", "b": "if any then pass d, pass a", "c": "if any then pass e, pass d",
                       "d": "if any then pass e", "e": ""})
        house.deliver("a", ("a", [], 0))
        self.assertEqual(house.way(0), ["a", "b", "c", "d", "e"])
        house.teach("a", "if any then pass c, pass b")
        house.deliver("a", ("a", [], 0))
        self.assertEqual(house.way(1), ["a", "c", "b", "e", "d"])

    def test_filed_and_outside(self):
        house = busy_house()
        for letter in (("a", ["a"], 0), ("a", [], 9), ("z", ["a"], 99999)):
            house.deliver("ann", letter)
        self.assertEqual(house.filed("ann", "all"), [0, 1, 2])
        self.assertEqual(house.filed("cyd", "all"), [0, 2])
        self.assertEqual(house.filed("bob", "big"), [2])
        self.assertEqual(house.filed("bob", "wrong"), [])
        self.assertEqual(house.filed("dan", "never"), [])
        self.assertEqual(house.outside("out"), [0, 2])
        self.assertEqual(house.outside("away"), [2])
        self.assertEqual(house.outside("nobody"), [])

    def test_refusals(self):
        house = busy_house()
        for thing in NO_NAME + ["out"]:
            self.assertRaises(BadName, house.deliver, thing, ("a", [], 0))
            self.assertRaises(BadName, house.deliver, thing, None)
            self.assertRaises(BadName, house.filed, thing, "all")
            self.assertRaises(BadName, house.rules, thing)
        for thing in NO_LETTER:
            self.assertRaises(BadLetter, house.deliver, "ann", thing)
        self.assertRaises(NoLetter, house.way, 0)
        self.assertEqual(house.deliver("ann", ("a", [], 0)), 0)
        for thing in NO_NUMBER + [1]:
            self.assertRaises(NoLetter, house.way, thing)
        for thing in NO_NAME:
            self.assertRaises(BadName, house.filed, "ann", thing)
            self.assertRaises(BadName, house.outside, thing)
        self.assertRaises(BadName, house.outside, "ann")
        self.assertEqual(house.filed("ann", "all"), [0])
        self.assertEqual(house.way(0), ["ann"])

    def test_nothing_handed_in_is_kept_and_all_is_new(self):
        texts = {"ann": "if has a then file x"}
        house = House(texts)
        words = ["a"]
        house.deliver("ann", ("a", words, 0))
        texts["ann"] = ""
        texts["bob"] = ""
        words.append("b")
        self.assertEqual(house.rules("ann"), "if has a then file x")
        self.assertRaises(BadName, house.rules, "bob")
        for told in (house.way(0), house.filed("ann", "x"), house.outside("x")):
            told.append("q")
        self.assertEqual((house.way(0), house.filed("ann", "x"), house.outside("x")), (["ann"], [0], []))
        self.assertEqual(words, ["a", "b"])


class Teaching(unittest.TestCase):

    def test_other_rules_from_then_on(self):
        house = House({"ann": "if any then file old"})
        house.deliver("ann", ("a", [], 0))
        self.assertIsNone(house.teach("ann", "\n# new\nif any then file new"))
        house.deliver("ann", ("a", [], 0))
        self.assertEqual((house.filed("ann", "old"), house.filed("ann", "new")), ([0], [1]))
        self.assertEqual(house.rules("ann"), "\n# new\nif any then file new")

    def test_somebody_new(self):
        house = House({"ann": "if any then pass bob, pass cyd"})
        house.deliver("ann", ("a", [], 0))
        self.assertEqual(house.outside("bob"), [0])
        house.teach("bob", "if any then file x")
        self.assertRaises(BadName, house.outside, "bob")
        self.assertEqual(house.way(0), ["ann"])
        house.deliver("ann", ("a", [], 0))
        self.assertEqual((house.way(0), house.way(1), house.outside("cyd")), (["ann"], ["ann", "bob"], [0, 1]))
        self.assertEqual(house.filed("bob", "x"), [1])

    def test_names_of_other_rules_do_not_count_any_more(self):
        house = House({"ann": "if has a and has b and has c then stop", "bob": "if has d then stop"})
        self.assertRaises(TooMany, house.teach, "bob", "if has e and has d then stop")
        house.teach("bob", "if has e then stop")
        house.teach("ann", "if has a and has d and has f then stop")
        self.assertRaises(TooMany, house.teach, "cyd", "if has g then stop")

    def test_five_people(self):
        house = House({name: "" for name in "abcde"})
        self.assertRaises(TooMany, house.teach, "f", "")
        self.assertRaises(BadName, house.rules, "f")
        house.teach("e", "if any then stop")
        self.assertEqual(house.rules("e"), "if any then stop")

    def test_refusals_change_nothing(self):
        house = House({"ann": "if any then file x"})
        for thing in NO_NAME:
            self.assertRaises(BadName, house.teach, thing, None)
        for thing in NO_TEXT:
            self.assertRaises(BadText, house.teach, "ann", thing)
            self.assertRaises(BadText, house.teach, "bob", thing)
        self.assertRaises(BadRule, house.teach, "ann", "if")
        self.assertRaises(TooMany, house.teach, "ann", FIVE_NAMES)
        full = House({name: "" for name in "abcde"})
        self.assertRaises(BadRule, full.teach, "f", "if")
        self.assertRaises(BadName, full.teach, "F", "if")
        self.assertEqual(house.rules("ann"), "if any then file x")
        self.assertRaises(BadName, house.rules, "bob")
        house.deliver("ann", ("a", [], 0))
        self.assertEqual(house.filed("ann", "x"), [0])


class Houses(unittest.TestCase):

    def test_refusals(self):
        for thing in NO_HOUSE:
            self.assertRaises(BadHouse, House, thing)
        self.assertRaises(BadRule, House, {"ann": "if"})
        self.assertRaises(TooMany, House, {"ann": FIVE_NAMES})
        self.assertRaises(TooMany, House, {"ann": "if has a and has b and has c then stop", "bob": "if pair d e then stop"})
        with self.assertRaises(BadRule) as caught:
            House({"bb": "if", "c": "if any"})
        self.assertEqual(caught.exception.word, 2)

    def test_one_and_five_people(self):
        House({"a": ""})
        House({name: "if any then pass a" for name in "abcde"})
        House({"a": "if has a and has b then stop", "b": "if has c and has d and has a then stop"})

    def test_twin(self):
        house = busy_house()
        house.deliver("ann", ("a", ["a"], 0))
        twin = house.twin()
        self.assertIsInstance(twin, House)
        self.assertEqual((twin.way(0), twin.filed("ann", "all"), twin.outside("out")), (["ann", "bob", "cyd", "dan"], [0], [0]))
        self.assertEqual(twin.deliver("cyd", ("a", ["a"], 0)), 1)
        twin.deliver("ann", ("a", ["a"], 0))
        twin.teach("ann", "")
        twin.teach("eve", "")
        self.assertRaises(NoLetter, house.way, 1)
        self.assertEqual((house.filed("ann", "all"), house.filed("cyd", "all"), house.outside("out")), ([0], [0], [0]))
        self.assertRaises(BadName, house.rules, "eve")
        self.assertNotEqual(house.rules("ann"), "")
        house.deliver("dan", ("z", [], 0))
        self.assertEqual(house.outside("away"), [1])
        self.assertEqual(twin.outside("away"), [])
        self.assertEqual(twin.way(1), ["cyd", "bob", "dan"])

    def test_methods_stand_in_the_class(self):
        for name in ("deliver", "way", "filed", "outside", "teach", "rules", "twin"):
            self.assertIn(name, vars(House))


if __name__ == "__main__":
    unittest.main()
