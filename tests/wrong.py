"""Things of the wrong kinds, for the tests of refusals."""


class Thing:
    """An object of a class that the program has never heard of."""


def anything():
    """A function, to be handed in where none is asked for."""


NEITHER_TEXT_NOR_NUMBER = [
    None, True, False, b"if any then stop", b"", [], ["a"], (), ("a", [], 0), {}, {"a": "a"}, {1: []}, set(), {"a"},
    frozenset(), bytearray(b"a"), range(3), Thing(), Thing, anything, len, str, ValueError("a"), iter([]), [[]], ([],),
    slice(1), NotImplemented, ..., memoryview(b"a"),
]
NO_TEXT = NEITHER_TEXT_NOR_NUMBER + [0, 1, -1, 10 ** 30]
NO_NAME = NO_TEXT + ["", "A", "aB", "a b", " a", "a ", "a\n", "a1", "a-b", "abcdefghijk", "#", "(", "a,b", "a_b", "-", "z" * 99]
NO_LETTER = [thing for thing in NO_NAME if thing != ("a", [], 0)] + [
    "bob", ("a", []), ("a", [], 0, 0), ["a", [], 0], {"a": 0, "b": 1, "c": 2}, "abc",
    ("", [], 0), ("A", [], 0), ("abcdefghijk", [], 0), (None, [], 0), (["a"], [], 0), (b"a", [], 0), (0, [], 0),
    ("a", (), 0), ("a", ("b",), 0), ("a", "b", 0), ("a", "", 0), ("a", None, 0), ("a", {}, 0), ("a", set(), 0),
    ("a", [""], 0), ("a", ["B"], 0), ("a", ["b", "abcdefghijk"], 0), ("a", [None], 0), ("a", [["b"]], 0),
    ("a", [b"b"], 0), ("a", [0], 0), ("a", ["b", True], 0), ("a", [("b",)], 0), ("a", ["b c"], 0),
    ("a", [], -1), ("a", [], 100000), ("a", [], True), ("a", [], False), ("a", [], None), ("a", [], "0"),
    ("a", [], [0]), ("a", [], (0,)), ("a", [], b"0"), ("a", [], {}), ("a", [], 10 ** 40),
]
NO_HOUSE = [thing for thing in NO_TEXT if thing != {"a": "a"}] + [
    "a", "if any then stop", {}, {"": ""}, {"A": ""}, {"abcdefghijk": ""}, {1: ""}, {None: ""}, {True: ""},
    {("a",): ""}, {b"a": ""}, {"a": None}, {"a": 1}, {"a": b""}, {"a": []}, {"a": ["if any then stop"]}, {"a": ("",)},
    {"a": {}}, {"a": True}, {"a": "", "b": None}, {"a": "", "B": ""}, [("a", "")], (("a", ""),), {"a"},
    {name: "" for name in "abcdef"}, {name: "" for name in "abcdefg"},
]
NO_NUMBER = NO_TEXT[:-4] + [-1, -2, 10 ** 30, "0", "", "a"]
