"""Point 72: the written form of deeds."""

import random
import unittest

from helpers import Case, frozen, spoil
from surerails import errors
from surerails.deeds import format_deeds, parse_deeds

DEEDS = [
    ("tick", 0, (), ()), ("tick", 1, ((0, 3), (2, 10), (0, 1)), (7, 4)), ("act", 12), ("tick", 2, (), (0,)),
    ("act", 0), ("act", 0), ("tick", 2, ((1, 0),), ()),
]
LINES = [
    "tick 0", "tick 1", "come 0 3", "come 2 10", "come 0 1", "see 7", "see 4", "act 12", "tick 2", "see 0", "act 0",
    "act 0", "tick 2", "come 1 0",
]


def text_of(lines):
    return "".join(line + "\n" for line in lines)


def random_deeds(chance, count):
    deeds = []
    for _ in range(count):
        if chance.random() < 0.3:
            deeds.append(("act", chance.choice([0, 5, 10 ** 12])))
        else:
            letters = tuple((chance.randrange(4), chance.randrange(90)) for _ in range(chance.choice([0, 0, 1, 3])))
            events = tuple(chance.randrange(60) for _ in range(chance.choice([0, 0, 1, 3])))
            deeds.append(("tick", chance.randrange(6), letters, events))
    return deeds


def first_bad(text):
    """The number of the first line that cannot stand in its place, or None, by the words of points 69, 71 and 72."""
    lines = text.split("\n")
    rest = lines.pop()
    before = None
    for at, line in enumerate(lines, 1):
        words = line.split(" ")
        allowed = {"tick": 1, "act": 1}
        if before in ("tick", "come"):
            allowed["come"] = 2
        if before in ("tick", "come", "see"):
            allowed["see"] = 1
        if len(words) - 1 != allowed.get(words[0]):
            return at
        for word in words[1:]:
            if not word or set(word) - set("0123456789") or len(word) > 13 or word != "0" and word[0] == "0":
                return at
        before = words[0]
    return len(lines) + 1 if rest else None


class TestFormat(Case):

    def test_all_kinds_of_lines(self):
        self.assertEqual(format_deeds(DEEDS), text_of(LINES))
        self.assertEqual(format_deeds(deeds=DEEDS[:1]), "tick 0\n")

    def test_no_deeds(self):
        self.assertEqual(format_deeds([]), "")
        self.assertEqual(parse_deeds(""), [])

    def test_deeds_without_letters_and_events(self):
        self.assertEqual(format_deeds([("tick", 3, (), ())]), "tick 3\n")
        self.assertEqual(parse_deeds("tick 3\n"), [("tick", 3, (), ())])

    def test_great_numbers_have_all_their_digits(self):
        self.assertEqual(format_deeds([("act", 10 ** 30)]), "act 1" + "0" * 30 + "\n")

    def test_read_back_and_written_alike(self):
        chance = random.Random(310)
        for _ in range(100):
            deeds = random_deeds(chance, chance.randint(0, 9))
            text = format_deeds(deeds)
            self.assertEqual(frozen(parse_deeds(text)), frozen(deeds))
            self.assertEqual(format_deeds(parse_deeds(text)), text)
            self.assertIsNone(first_bad(text))


class TestParse(Case):

    def test_all_kinds_of_lines(self):
        self.assertEqual(frozen(parse_deeds(text=text_of(LINES))), frozen(DEEDS))

    def bad(self, lines, number):
        text = lines if isinstance(lines, str) else text_of(lines)
        self.refuses("BadText", (number,), lambda: parse_deeds(text))
        self.assertEqual(first_bad(text), number)

    def test_see_before_come(self):
        self.bad(["tick 0", "see 1", "come 0 1"], 3)
        self.bad(["tick 0", "come 0 1", "see 1", "come 0 2"], 4)

    def test_come_and_see_where_no_tick_is(self):
        for line in ("come 0 1", "see 1"):
            self.bad([line], 1)
            self.bad(["act 1", line], 2)
            self.bad(["tick 0", "act 1", line], 3)

    def test_words(self):
        for line in (
            "tick", "tick 0 0", "act", "act 0 0", "come 0", "come 0 1 2", "see", "see 1 1", "Tick 0", "rubbish", "tick -1",
            "tick 01", "act x", "see none", "come 0 never", "come 01 1", "tick  0", "tick 0 ", " tick 0", "act " + "1" * 14,
        ):
            self.bad(["tick 0", line], 2)
        self.assertEqual(parse_deeds("act " + "9" * 13 + "\n"), [("act", 10 ** 13 - 1)])

    def test_empty_lines_and_missing_newlines(self):
        for at in range(len(LINES) + 1):
            self.bad(LINES[:at] + [""] + LINES[at:], at + 1)
        self.bad("\n", 1)
        self.bad("act 0", 1)
        self.bad("act 0\nact 1", 2)
        self.bad("act 0\n ", 2)

    def test_spoilt_texts(self):
        chance = random.Random(311)
        counts = [0, 0]
        for _ in range(300):
            text = format_deeds(random_deeds(chance, 4))
            at = chance.randrange(len(text) + 1)
            text = text[:at] + chance.choice(["", "\n", " ", "0", "1", "t", "see 1\n"]) + text[at + chance.randint(0, 2):]
            number = first_bad(text)
            counts[number is None] += 1
            if number is None:
                self.assertEqual(format_deeds(parse_deeds(text)), text)
            else:
                self.bad(text, number)
        self.assertGreater(min(counts), 20)

    def test_nothing_is_asked_about_values(self):
        self.assertEqual(parse_deeds("tick 9\nsee 3\nsee 3\nact 77\n"), [("tick", 9, (), (3, 3)), ("act", 77)])

    def test_the_error_is_a_rails_error(self):
        with self.assertRaises(errors.RailsError):
            parse_deeds("\n")


class TestCopies(Case):

    def test_nothing_is_changed_and_every_list_is_new(self):
        deeds = list(DEEDS)
        self.same_after_spoiling(lambda: [format_deeds(deeds), parse_deeds(text_of(LINES))])
        self.assertEqual(deeds, DEEDS)
        found = parse_deeds(text_of(LINES))
        spoil(found)
        self.assertEqual(frozen(parse_deeds(text_of(LINES))), frozen(DEEDS))


if __name__ == "__main__":
    unittest.main()
