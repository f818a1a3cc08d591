"""Customary marks: promises [54] and [55], and what [58] says of them."""

import itertools
import random
import time
import unittest

from betweenlooks.customary import customary
from betweenlooks.errors import BadDeeds, BadLine, TooMany
from helpers import BACK, ErrorCase, rows_up_to

KINDS = ("latch", "chain", "level", "last", "first", "ends", "recent", "count")
PARTED = ("level", "last", "first", "ends", "recent")
NAMES = ("a", "b", "c", "d", "e", "f")


def parts_of(words, deeds, kind):
    """The groups that these words are, as tuples, or None if they are no groups of this kind."""
    groups = [list(group) for comma, group in itertools.groupby(words, lambda word: word == ",") if not comma]
    if words.count(",") != len(groups) - 1 or words[:1] == [","] or words[-1:] == [","] or not 1 <= len(groups) <= 6:
        return None
    groups = [list(deeds) if group == ["*"] else group for group in groups]
    if any(set(group) - set(deeds) or len(set(group)) < len(group) for group in groups):
        return None
    if kind in ("latch", "count") and len(groups) > 1:
        return None
    if kind in PARTED and len(set(sum(groups, []))) < len(sum(groups, [])):
        return None
    return groups


def parsed(line, deeds):
    """What a line names: its kind, numbers and groups, and for since a group and what the other line names; or None."""
    words = line.split(" ")
    kind, rest = words[0], words[1:]
    if kind == "since" and ":" in rest:
        at = rest.index(":")
        group, inner = parts_of(rest[:at], deeds, "latch"), parsed(" ".join(rest[at + 1:]), deeds)
        return (kind, group, inner) if group and inner and inner[0] != "since" else None
    many = {"recent": 1, "count": 2}.get(kind, 0)
    if kind not in KINDS or len(rest) <= many:
        return None
    ranges = {"recent": [range(1, 7)], "count": [range(100), range(1, 100)]}.get(kind, [])
    if any(word not in [str(n) for n in numbers] for word, numbers in zip(rest, ranges)):
        return None
    groups = parts_of(rest[many:], deeds, kind)
    return (kind, [int(word) for word in rest[:many]], groups) if groups else None


def begins_a_line(words, deeds, more=4):
    """Whether some line begins with these words: whether up to four further words make one of them."""
    if parsed(" ".join(words), deeds):
        return True
    # What is missing is at most a group, a colon, a kind and a group; or two numbers and a group.
    return more > 0 and any(begins_a_line(words + [word], deeds, more - 1)
                            for word in (*deeds, ":", "latch", "1") if words or word == "latch")


def told(found, row):
    """What a line tells after a row, by the table."""
    kind, numbers, groups = found
    if kind == "since":
        hits = [k for k, deed in enumerate(row) if deed in numbers[0]]
        return told(groups, row[hits[-1] + 1:] if hits else row)
    places = [next((k + 1 for k, group in enumerate(groups) if deed in group), 0) for deed in row]
    hits = [place for place in places if place]
    if kind == "latch":
        return "1" if hits else "0"
    if kind == "chain":
        rest = iter(row)
        for k, group in enumerate(groups):
            if not any(deed in group for deed in rest):
                return str(k)
        return str(len(groups))
    if kind == "count":
        begin, period = numbers
        return str(len(hits) if len(hits) < begin else begin + (len(hits) - begin) % period)
    if not hits:
        return "0"
    if kind == "recent":
        return "/".join(map(str, hits[-numbers[0]:]))
    return {"level": f"{max(hits)}", "last": f"{hits[-1]}", "first": f"{hits[0]}", "ends": f"{hits[0]}/{hits[-1]}"}[kind]


def some_groups(chance, deeds, kind):
    if chance.random() < 0.15:
        return "*"
    left = chance.sample(deeds, len(deeds))
    groups = []
    for _ in range(1 if kind in ("latch", "count") else chance.randint(1, 6)):
        if kind == "chain":
            groups.append(chance.choice(["*", " ".join(chance.sample(deeds, chance.randint(1, len(deeds))))]))
        elif left:
            many = chance.randint(1, min(2, len(left)))
            groups.append(" ".join(left[:many]))
            left = left[many:]
    return " , ".join(groups)


def some_line(chance, deeds, since=True):
    if since and chance.random() < 0.3:
        return f"since {some_groups(chance, deeds, 'latch')} : {some_line(chance, deeds, False)}"
    kind = chance.choice(KINDS)
    numbers = {"recent": f"{chance.randint(1, 3)} ", "count": f"{chance.randint(0, 4)} {chance.randint(1, 4)} "}
    return f"{kind} {numbers.get(kind, '')}{some_groups(chance, deeds, kind)}"


class Table(ErrorCase):
    def assert_tells(self, deeds, line):
        """The machine of a line tells what the table says, and has as few states as can be."""
        machine, found = customary(deeds, line), parsed(line, deeds)
        self.assertEqual(machine.deeds, tuple(deeds))
        for row in rows_up_to(deeds, {1: 9, 2: 6, 3: 4}.get(len(deeds), 3)):
            self.assertEqual(machine.told(row), told(found, row), (line, row))
        self.assertEqual(machine.least(), machine)
        return machine

    def test_any_lines(self):
        chance = random.Random(54)
        seen = {}
        for _ in range(400):
            deeds = chance.sample(NAMES[:4], chance.randint(1, 4))
            line = some_line(chance, deeds)
            try:
                machine = self.assert_tells(deeds, line)
            except TooMany as error:
                self.assertEqual((error.what, error.many, error.most), ("states", 61, 60))
                continue
            for _ in range(5):
                row = tuple(chance.choices(deeds, k=chance.randint(10, 30)))
                self.assertEqual(machine.told(row), told(parsed(line, deeds), row))
            words = line.split(" ")
            kind = (words[0], words[words.index(":") + 1] if ":" in words else "")
            seen[kind] = seen.get(kind, 0) + 1
        self.assertEqual(len(seen), 16)

    def test_by_hand(self):
        deeds = ("f", "r")
        self.assertEqual(customary(line="latch r", deeds=["f", "r"]).rows, ((0, 1), (1, 1)))
        chain = customary(deeds, "chain f , r")
        self.assertEqual((chain.rows, chain.tells), (((1, 0), (1, 2), (2, 2)), ("0", "1", "2")))
        self.assertEqual(customary(deeds, "ends f , r").told(("r", "f", "r", "f")), "2/1")
        self.assertEqual(customary(deeds, "recent 2 f , r").told(("f", "r", "f")), "2/1")
        machine = customary(("a", "c"), "since c : count 0 2 a")
        self.assertEqual([machine.told(row) for row in [("a",), ("a", "a"), ("a", "c"), ("c", "a"), ("a", "c", "a")]],
                         ["1", "0", "0", "1", "1"])
        self.assertNotEqual(chain.least().tells, BACK.tells)
        self.assertEqual(chain.telling({"0": "no", "1": "no", "2": "yes"}), BACK)

    def test_all_deeds(self):
        for kind in ("latch", "last", "level", "first", "count 2 3"):
            self.assertEqual(customary(NAMES, f"{kind} *"), customary(NAMES, f"{kind} {' '.join(NAMES)}"))
        self.assertEqual(customary(("a",), "chain * , * , a").tells, ("0", "1", "2", "3"))
        self.assertEqual(customary(("a", "b"), "since * : recent 6 a , b").tells, ("0",))

    def test_numbers(self):
        for begin, period in [(0, 1), (0, 60), (59, 1), (30, 30), (1, 59), (0, 2)]:
            machine = customary(("a", "b"), f"count {begin} {period} a")
            self.assertEqual(len(machine), begin + period)
            self.assertEqual(machine.told(("a",) * 200), str(begin + (200 - begin) % period))
        for many in range(1, 7):
            machine = customary(("a", "b"), f"recent {many} a")
            self.assertEqual((len(machine), machine.told(("a", "b") * 9)), (many + 1, "/".join("1" * many)))

    def test_deeds_with_the_names_of_words(self):
        deeds = ("latch", "since", "count", "last")
        self.assertEqual(customary(deeds, "since since : last latch , last").told(("last", "since", "latch")), "1")
        self.assertEqual(customary(deeds, "latch latch").told(("latch",)), "1")
        self.assert_error(BadLine, (3,), customary, deeds, "since since :")


class Lines(ErrorCase):
    def assert_judged(self, deeds, line):
        """A line that names nothing is refused with the number of words with which some line begins."""
        words = line.split(" ")
        if parsed(line, deeds):
            try:
                customary(deeds, line)
            except TooMany as error:
                self.assertEqual((error.what, error.many, error.most), ("states", 61, 60))
            return None
        most = 0
        while most < len(words) and begins_a_line(words[:most + 1], deeds):
            most += 1
        self.assert_error(BadLine, (most,), customary, deeds, line)
        return most

    def test_examples(self):
        self.assert_error(BadLine, (1,), customary, ("a", "b"), "latch c")
        self.assert_error(BadLine, (3,), customary, ("a", "b"), "count 0 2")
        self.assert_error(BadLine, (4,), customary, ("a", "b"), "last a , b ,")

    def test_spoiled_lines(self):
        chance = random.Random(55)
        extra = ["a", "b", "z", "*", ",", ":", "", "latch", "since", "0", "1", "7", "01", "100", "99", "A", "last", "-1"]
        seen = {}
        for _ in range(500):
            deeds = chance.sample(NAMES[:3], chance.randint(1, 3))
            words = some_line(chance, deeds).split(" ")
            for _ in range(chance.choice([1, 1, 2])):
                at, way = chance.randrange(len(words) + 1), chance.randint(0, 3)
                if way == 0:
                    words.insert(at, chance.choice(extra))
                elif way == 1 and at < len(words):
                    words[at:at + 1] = []
                elif way == 2 and at < len(words):
                    words[at:at] = [words[at]]
                else:
                    words[at:at + 1] = [chance.choice(extra)]
            most = self.assert_judged(deeds, " ".join(words))
            seen[most] = seen.get(most, 0) + 1
        self.assertGreater(len(seen), 8)

    def test_by_hand(self):
        six = " , ".join(NAMES)
        for deeds, line, index in [
                ("a", "", 0), ("a", " ", 0), ("a", "  latch a", 0), ("a", "latch", 1), ("a", "latch ", 1),
                ("a", "latch  a", 1), ("a", "latch a ", 2), ("a", "latch a a", 2), ("a", "latch a *", 2),
                ("a", "latch * a", 2), ("a", "latch a ,", 2), ("a", "latch , a", 1), ("a", "Latch a", 0),
                ("a", "chain a , a , a , a , a , a", None), ("a", "chain a , a , a , a , a , a ,", 12),
                ("a", "chain a , a , a , a , a , a , a", 12), ("a", "chain a ,", 3), ("a", "chain a , ,", 3),
                ("ab", "last a , *", 3), ("ab", "last * ,", 2), ("ab", "last a b ,", 3), ("ab", "last a b a", 3),
                ("ab", "last a , a", 3), ("ab", "last a , b a", 4), ("ab", "chain a , * , b a", None),
                ("ab", "since a : since b : latch a", 3), ("ab", "since a latch b", 2), ("ab", "since a", 2),
                ("ab", "since a , b : latch a", 2), ("ab", "since : latch a", 1), ("ab", "since a :", 3),
                ("ab", "since a : latch", 4), ("ab", "since a : latch c", 4), ("ab", "since * : latch *", None),
                ("ab", "recent a", 1), ("ab", "recent 0 a", 1), ("ab", "recent 7 a", 1), ("ab", "recent 06 a", 1),
                ("ab", "recent 6", 2), ("ab", "count 100 1 a", 1), ("ab", "count 99 100 a", 2),
                ("ab", "count 0 0 a", 2), ("ab", "count 00 1 a", 1), ("ab", "count 0 01 a", 2),
                ("ab", "count 0 1 a , b", 4), ("ab", "count 0", 2), ("ab", "count", 1), ("ab", "first a\n", 1),
                (NAMES, f"last {six}", None), (NAMES, f"last {six} ,", 12), (NAMES, f"level {six} , a", 12)]:
            if index is None:
                self.assertIsNotNone(parsed(line, tuple(deeds)), line)
                customary(tuple(deeds), line)
            else:
                self.assert_error(BadLine, (index,), customary, tuple(deeds), line)

    def test_the_deeds_come_first(self):
        self.assert_error(BadDeeds, (1,), customary, ("a", "A"), "latch")
        self.assert_error(BadDeeds, (2,), customary, ["a", "b", "a"], "")
        self.assert_error(BadDeeds, (0,), customary, (), "latch")
        self.assert_error(TooMany, ("deeds", 7, 6), customary, (*NAMES, "g"), "latch")

    def test_too_many_states_come_last_and_quickly(self):
        begin = time.time()
        six = " , ".join(NAMES)
        for line in ["count 99 99 a", "count 31 30 a", "count 0 61 *", "count 60 1 b c", f"recent 6 {six}",
                     f"recent 3 {six}", "recent 6 a , b", "recent 5 a , b", f"since a : recent 6 {six}",
                     "since b : count 99 99 a"]:
            self.assert_error(TooMany, ("states", 61, 60), customary, NAMES, line)
            self.assert_error(BadLine, (len(line.split(" ")),), customary, NAMES, line + " ")
        for line in [f"chain {six}", f"since f : chain {six}", f"ends {six}", "recent 4 a , b", "count 99 99 b"]:
            deeds = NAMES
            if line.startswith("count"):
                deeds, line = NAMES, "since b : count 99 99 b"
            self.assertLessEqual(len(customary(deeds, line)), 37)
        self.assertLess(time.time() - begin, 4)


if __name__ == "__main__":
    unittest.main()
