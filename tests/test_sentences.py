"""Points 13 to 15: sentences."""

import random
import re
import unittest

from helpers import lots_of, refused
from newsbooks.errors import BadLot, BadSentence, TooMany
from newsbooks.facts import Facts
from newsbooks.sentences import lot_said, plain

FACTS = Facts(["a", "b1", "nott"], [2, 3, 2])
BARRED = Facts(["a", "b"], [2, 2], [(0, 1), (1, 0)])
PIECES = ["a=0", "a=1", "b1=2", "nott=1", "yes", "no", "not ", "(", ")", " and ", " or ", "a", "=", "3", " ", "not", "x1=0"]


def first_fault(facts, text):
    """The place at which the text, read from left to right, stops being a sentence; None if it does not."""
    at, opened, due = 0, 0, True
    while True:
        if due and text.startswith("not ", at):
            at += 4
        elif due and text.startswith("(", at):
            at, opened = at + 1, opened + 1
        elif due:
            word = re.compile("[a-z][a-z0-9]*").match(text, at)
            if word is None:
                return at
            end = word.end()
            if word.group() not in ("yes", "no"):
                if text[end:end + 1] != "=":
                    return end
                if re.match("[0-9]", text[end + 1:]) is None:
                    return end + 1
                counts = dict(zip(facts.names, facts.counts))
                if int(text[end + 1]) >= counts.get(word.group(), 0):
                    return at
                end += 2
            at, due = end, False
        elif text.startswith(" and ", at):
            at, due = at + 5, True
        elif text.startswith(" or ", at):
            at, due = at + 4, True
        elif opened and text.startswith(")", at):
            at, opened = at + 1, opened - 1
        elif at == len(text) and not opened:
            return None
        else:
            return at


def lot_by_python(facts, text):
    """What Python, whose not, and, or bind as those of sentences do, says of the text in each world."""
    text = re.sub(r"\b([a-z][a-z0-9]*)=([0-9])", r"(row['\1'] == \2)", text)
    text = re.sub(r"\byes\b", "True", re.sub(r"\bno\b", "False", text))
    rows = [dict(zip(facts.names, row)) for row in facts.rows]
    return tuple(world for world, row in enumerate(rows) if eval(text, {"row": row}))


def some_sentence(chance, facts, depth):
    shape = chance.randrange(7) if depth else 0
    if shape < 2:
        fact = chance.randrange(facts.many)
        named = f"{facts.names[fact]}={chance.randrange(facts.counts[fact])}"
        return chance.choice([named, named, named, "yes", "no"])
    if shape == 2:
        inner = some_sentence(chance, facts, depth - 1)
        return f"not ({inner})" if " " in inner else f"not {inner}"
    if shape == 3:
        return f"({some_sentence(chance, facts, depth - 1)})"
    joint = chance.choice([" and ", " or "])
    return joint.join(some_sentence(chance, facts, depth - 1) for _ in range(chance.randint(2, 3)))


class SentencesTest(unittest.TestCase):
    def test_13_what_sentences_say(self):
        for text, lot in (("yes", (0, 1)), ("no", ()), ("a=0", (0,)), ("not a=0", (1,)), ("not not a=0", (0,)),
                          ("a=1 or a=0", (0, 1)), ("a=1 and b=0", ()), ("not yes or b=1", (1,)), ("((b=1))", (1,))):
            self.assertEqual(lot_said(BARRED, text), lot)

    def test_13_not_binds_closer_than_and_and_closer_than_or(self):
        say = lambda text: lot_said(FACTS, text)
        self.assertEqual(say("a=0 or a=1 and b1=0"), say("a=0 or (a=1 and b1=0)"))
        self.assertNotEqual(say("a=0 or a=1 and b1=0"), say("(a=0 or a=1) and b1=0"))
        self.assertEqual(say("a=1 and b1=0 or a=0"), say("(a=1 and b1=0) or a=0"))
        self.assertEqual(say("not a=0 and b1=0"), say("(not a=0) and b1=0"))
        self.assertNotEqual(say("not a=0 and b1=0"), say("not (a=0 and b1=0)"))

    def test_13_some_sentences(self):
        chance = random.Random(13)
        for _ in range(600):
            facts = chance.choice([FACTS, BARRED])
            text = some_sentence(chance, facts, chance.randint(0, 4))
            if text.count("(") + text.count("not ") <= 40 and len(text) <= 2000:
                self.assertEqual(lot_said(facts, text), lot_by_python(facts, text), text)

    def test_14_places_of_faults(self):
        for text, place in (
            ("", 0), (" ", 0), ("a", 1), ("a=", 2), ("a=x", 2), ("a=2", 0), ("a=1=", 3), ("a=12", 3), ("a=92", 0),
            ("c=0", 0), ("c=9", 0), ("c", 1), ("not=1", 0), ("not=x", 4), ("not", 3), ("not a", 5), ("not(a=1)", 3),
            ("and=0", 0), ("or", 2), ("yes=1", 3), ("no1=0", 0), ("yes no", 3), ("a=1 ", 3), ("a=1 and", 3),
            ("a=1 and ", 8), ("a=1  and a=1", 3), ("a=1 and  a=1", 8), ("a=1 or", 3), ("a=1 or ", 7), ("(a=1", 4),
            (")", 0), ("a=1)", 3), ("(a=1))", 5), ("()", 1), ("( a=1)", 1), ("(a=1 )", 4), ("((a=1) or b1=0", 14),
            ("not  a=1", 4), ("not not", 7), ("A=1", 0), ("1a=1", 0), ("a =1", 1), ("a= 1", 2), ("a=1 and not (b1=3)", 13),
            ("a=1\n", 3), ("a=\u0661", 2), ("\u00e4=1", 0), ("a\u00b2=1", 1), ("nott=1 xor yes", 6), ("notta=0", 0),
        ):
            refused(self, BadSentence(place), lot_said, FACTS, text)
            self.assertEqual(first_fault(FACTS, text), place, text)

    def test_14_some_texts(self):
        chance = random.Random(14)
        faults = 0
        for _ in range(6000):
            text = "".join(chance.choice(PIECES) for _ in range(chance.randint(1, 9)))
            if chance.random() < 0.5:
                text = some_sentence(chance, FACTS, 2)
                cut = chance.randrange(len(text) + 1)
                text = text[:cut] + chance.choice(PIECES + [""]) + text[cut + chance.randint(0, 2):]
            place = first_fault(FACTS, text)
            if place is None:
                self.assertEqual(lot_said(FACTS, text), lot_by_python(FACTS, text), text)
            else:
                faults += 1
                refused(self, BadSentence(place), lot_said, FACTS, text)
        self.assertGreater(faults, 1000)

    def test_14_no_texts(self):
        for text in (None, 3, b"yes", ["yes"], ("yes",), True):
            refused(self, BadSentence(-1), lot_said, FACTS, text)

    def test_14_longest_sentences(self):
        longest = "a=1 or " * 284 + "b1=0 and a=0"
        self.assertEqual(len(longest), 2000)
        self.assertEqual(lot_said(FACTS, longest), lot_said(FACTS, "a=1 or b1=0"))
        longer = "a=1 or " * 284 + "nott=0 or a=0"
        self.assertEqual(len(longer), 2001)
        refused(self, TooMany(2000), lot_said, FACTS, longer)
        refused(self, BadSentence(1999), lot_said, FACTS, "a=1 or " * 284 + "b1=0 or a=0 ")
        refused(self, BadSentence(0), lot_said, FACTS, " " * 2000)
        refused(self, TooMany(2000), lot_said, FACTS, " " * 2001)
        refused(self, TooMany(40), lot_said, FACTS, "(" * 2000)
        refused(self, TooMany(2000), lot_said, FACTS, "(" * 2001)

    def test_14_most_brackets_and_nots(self):
        for brackets in (0, 13, 40):
            text = "(" * brackets + "not " * (40 - brackets) + "a=1" + ")" * brackets
            self.assertEqual(lot_said(FACTS, text), lot_said(FACTS, "not a=1" if brackets % 2 else "a=1"))
            refused(self, TooMany(40), lot_said, FACTS, "(" + text + ")")
            refused(self, TooMany(40), lot_said, FACTS, "not " + text)
        runs = " or ".join(["a=1"] * 5) + "xnot " * 20 + "(" * 20
        refused(self, BadSentence(31), lot_said, FACTS, runs)
        refused(self, TooMany(40), lot_said, FACTS, runs + "(")
        refused(self, TooMany(40), lot_said, FACTS, "#" + "not " * 41)
        refused(self, BadSentence(0), lot_said, FACTS, "#" + "not " * 40)

    def test_15_plain_sentences(self):
        for facts, lot, text in (
            (FACTS, (), "no"), (FACTS, range(12), "yes"), (FACTS, (0, 1, 2, 3, 4, 5), "a=0"),
            (FACTS, (5, 0), "a=0 and b1=0 and nott=0 or a=0 and b1=2 and nott=1"),
            (FACTS, (2, 3, 8, 9, 4, 5, 10, 11), "b1=1 or b1=2"),
            (BARRED, (0,), "a=0 and b=0"), (BARRED, (1,), "a=1 and b=1"),
        ):
            self.assertEqual(plain(facts, list(lot)), text)

    def test_15_plain_sentences_say_their_lots(self):
        half = Facts(["a", "b", "c"], [2, 2, 2], [(0, 0, 1), (1, 1, 0)])
        for facts in (BARRED, half, Facts(["q"], [4]), Facts(["x", "y"], [2, 3])):
            texts = [plain(facts, lot) for lot in lots_of(facts.worlds)]
            self.assertEqual(len(set(texts)), 2 ** facts.worlds)
            for lot, text in zip(lots_of(facts.worlds), texts):
                self.assertEqual(lot_said(facts, text), lot)
                self.assertEqual(plain(facts, tuple(reversed(lot))), text)
                self.check_plain(facts, lot, text)

    def check_plain(self, facts, lot, text):
        """The groups are the rows of values of the facts on which the lot hangs, or of all facts."""
        if text in ("yes", "no"):
            self.assertEqual(lot, tuple(range(facts.worlds)) if text == "yes" else ())
            return
        chosen = facts.hangs_on(lot)
        if not facts.told_by(lot, chosen):
            chosen = tuple(range(facts.many))
        rows = [[part.split("=") for part in group.split(" and ")] for group in text.split(" or ")]
        for row in rows:
            self.assertEqual([name for name, _ in row], [facts.names[fact] for fact in chosen])
        shares = [tuple(int(value) for _, value in row) for row in rows]
        self.assertEqual(shares, sorted(set(tuple(facts.rows[x][fact] for fact in chosen) for x in lot)))

    def test_15_refused_lots(self):
        refused(self, BadLot(-1), plain, FACTS, None)
        refused(self, BadLot(1), plain, FACTS, (3, 12))
        refused(self, BadLot(1), plain, FACTS, [3, 3])


if __name__ == "__main__":
    unittest.main()
