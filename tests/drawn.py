"""Draws texts of rules for the tests; the same seed draws the same ones."""


def drawn_fact(chance, words):
    kind = chance.choice(["from", "has", "has", "first", "last", "pair", "pair", "over", "marked", "marked", "any"])
    if kind == "any":
        return kind
    if kind == "from":
        return "from " + chance.choice(["a", "bob"])
    if kind == "over":
        return "over " + chance.choice(["0", "7", "99998", "99999"])
    if kind == "marked":
        return "marked " + chance.choice(["m", "n"])
    if kind == "pair":
        return f"pair {chance.choice(words)} {chance.choice(words)}"
    return f"{kind} {chance.choice(words)}"


def drawn_condition(chance, depth, words):
    if depth == 0 or chance.random() < 0.3:
        return drawn_fact(chance, words)
    kind = chance.choice(["not", "and", "and", "or", "or"])
    if kind == "not":
        return f"not ({drawn_condition(chance, depth - 1, words)})"
    parts = [drawn_condition(chance, depth - 1, words) for _ in range(chance.randint(2, 3))]
    return "(" + f" {kind} ".join(parts) + ")"


def drawn_deed(chance, folders):
    kind = chance.choice(["mark", "mark", "unmark", "file", "file", "pass", "stop"])
    if kind == "stop":
        return kind
    return f"{kind} {chance.choice(['m', 'n'] if kind.endswith('mark') else folders)}"


def drawn_row(chance, words, folders, depth=2):
    while True:
        deeds = ", ".join(drawn_deed(chance, folders) for _ in range(chance.randint(1, 3)))
        row = f"if {drawn_condition(chance, depth, words)} then {deeds}"
        if len(row.replace("(", " ( ").replace(")", " ) ").replace(",", " , ").split()) <= 60:
            return row


def drawn_text(chance, many, words, folders, depth=2):
    return "".join(drawn_row(chance, words, folders, depth) + "\n" for _ in range(many))


def drawn_turns(chance, many):
    """Rules that mostly file a few names, some again and again, by marks and few facts."""
    rows = []
    for _ in range(many):
        facts = [chance.choice(["", "not "]) + chance.choice(["has a", "over 3", "marked m", "marked n", "any", "over 5"])
                 for _ in range(chance.randint(1, 2))]
        deeds = [chance.choice(["file x", "file y", "file z", "file w", "mark m", "unmark m", "mark n", "pass x", "pass y", "stop"])
                 for _ in range(chance.randint(1, 2))]
        rows.append(f"if {chance.choice([' and ', ' or ']).join(facts)} then {', '.join(deeds)}")
    # Marks that are the same in the end leave the turns alone to part texts.
    return rows + chance.choice([[], ["if any then mark m, unmark n"]])
