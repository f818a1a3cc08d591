"""Pages of desks: promises [77], [84] and [85], and the page of [88]."""

import random
import time
import unittest

from betweenlooks.desks import Desk
from betweenlooks.errors import BadText, LooksError
from betweenlooks.facts import Changes, Done, Latest, Once, Retold, Since
from deskers import some_desk, some_fact
from helpers import ErrorCase
from lookers import KINDS, RULES
from reckoning import some_fact as any_fact

OS = ("open", "shut")
PAGE = """deeds open shut
put last cleared latest(open shut)
ask door carried latest(open shut)
limit 3 shut
admit knock"""


def steps_of(desk):
    return desk.page.split("\n")


class Written(ErrorCase):
    def test_the_example(self):
        desk = Desk(OS)
        desk.put("last", Latest(OS), "cleared")
        desk.ask("door", Latest(OS))
        desk.limit(3, ("shut",))
        desk.admit("knock")
        self.assertEqual(desk.page, PAGE)
        self.assertEqual(Desk.read(page=PAGE), desk)

    def test_every_kind_of_step(self):
        desk = Desk(("a", "b"))
        fact = Since(("a",), Once(Retold(Latest(("b",)), {"b": "x/y", "0": "z"}), "z")) ^ ~Changes(Done(("b",)), 2)
        steps = [(desk.put, ("m1", fact, "kept")), (desk.limit, (0,)), (desk.ask, ("q", fact, "taken")),
                 (desk.limit, (None, ("b", "a"))), (desk.limit, (10 ** 30, ["a"])), (desk.put, ("m1", fact, "cleared")),
                 (desk.drop, ("q",)), (desk.limit, ()), (desk.admit, ("c",)), (desk.bar, ("a",)), (desk.drop, ("m1",))]
        text = "(since(a, once(retold(latest(b), 0: z, b: x/y), z)) xor not changes(done(b), 2))"
        lines = ["deeds a b", f"put m1 kept {text}", "limit 0", f"ask q taken {text}", "limit none b a",
                 f"limit 1{'0' * 30} a", f"put m1 cleared {text}", "drop q", "limit none", "admit c", "bar a", "drop m1"]
        for k, (call, arguments) in enumerate(steps):
            self.assertEqual(desk.page, "\n".join(lines[:k + 1]))
            try:
                call(*arguments)
            except LooksError as error:
                self.fail((call.__name__, vars(error)))
        self.assertEqual(desk.page, "\n".join(lines))
        self.assertEqual(Desk.read(desk.page).page, desk.page)

    def test_rules_and_kinds(self):
        desk = Desk(("a",))
        for rule in RULES:
            desk.put(f"m{rule}", Done(("a",)), rule)
        for kind in KINDS:
            desk.limit(0)
            desk.ask(f"q{kind}", Done(("b",)), kind)
        desk.ask("plain", Done(("b",)))
        lines = ["deeds a"] + [f"put m{rule} {rule} done(a)" for rule in RULES]
        lines += [line for kind in KINDS for line in ("limit 0", f"ask q{kind} {kind} done(b)")]
        self.assertEqual(steps_of(desk), lines + ["ask plain carried done(b)"])


class Read(ErrorCase):
    def assert_read(self, page):
        """A desk with just this page, or BadText with the first line that is wrong; returns the line."""
        lines = page.split("\n")
        try:
            desk = Desk.read(page)
        except BadText as error:
            line = error.line
            self.assertIs(line.__class__, int)
            self.assertIn(line, range(1, len(lines) + 1))
            if line > 1:
                self.assertEqual(Desk.read("\n".join(lines[:line - 1])).page, "\n".join(lines[:line - 1]))
            self.assert_error(BadText, (line,), Desk.read, "\n".join(lines[:line]))
            return line
        self.assertEqual((desk.page, len(desk)), (page, len(lines) - 1))
        return None

    def test_read_again(self):
        chance = random.Random(85)
        for _ in range(60):
            desk, _ = some_desk(chance, 8)
            again = Desk.read(desk.page)
            self.assertEqual((again, again.page, len(again)), (desk, desk.page, len(desk)))
            self.assertEqual((again.lot, again.timing), (desk.lot, desk.timing))
            while len(desk):
                desk.undo()
                again.undo()
                self.assertEqual((again, again.page), (desk, desk.page))

    def test_facts_of_all_kinds(self):
        chance = random.Random(86)
        for _ in range(100):
            fact = any_fact(chance, ("a", "b"), 3)
            desk = Desk(("a", "b"))
            try:
                desk.put("m", fact, "kept")
            except LooksError:
                continue
            self.assertEqual(Desk.read(desk.page), desk)

    def test_spoiled_pages(self):
        chance = random.Random(87)
        seen = {}
        for _ in range(500):
            desk, _ = some_desk(chance, 7)
            lines = steps_of(desk)
            at, way = chance.randrange(len(lines)), chance.randint(0, 9)
            line = lines[at]
            if way == 0:
                del lines[at]
            elif way == 1:
                lines.insert(at, line)
            elif way == 2:
                lines.insert(chance.randrange(len(lines)), lines.pop(at))
            elif way == 3:
                lines.insert(at, chance.choice(["", " ", "limit", "drop", "undo", "put m kept", "admit a b", "deeds a"]))
            elif way == 4 and line:
                k = chance.randrange(len(line))
                lines[at] = line[:k] + chance.choice(["", " ", "  ", "x", "0", "(", line[k] * 2]) + line[k + 1:]
            elif way == 5:
                lines[at] = chance.choice([line + " ", " " + line, line.upper(), line.replace(" ", "  ", 1)])
            elif way == 6:
                lines.append(chance.choice(["", "\n", "drop zzz", "limit 00", "limit 03", "limit -1", "bar zzz"]))
            elif way == 7:
                words = line.split(" ")
                k = chance.randrange(len(words))
                words[k:k + 1] = chance.choice([[], [words[k]] * 2, ["carried"], ["kept"], ["none"], ["q"]])
                lines[at] = " ".join(words)
            elif way == 8:
                lines[at] = chance.choice([f"put {line}", f"ask q kept {line}", "ask put carried done(a)"])
            line = self.assert_read("\n".join(lines))
            seen[line] = seen.get(line, 0) + 1
        self.assertGreater(len(seen), 6)
        self.assertGreater(seen[None], 30)

    def test_by_hand(self):
        head = "deeds a b\nput m kept latest(a b)\nask q carried latest(a b)"
        self.assertEqual(Desk.read(head).questions, ("q",))
        for first in ["", "deeds", "deeds ", "deeds a a", "deeds A", "deeds  a", "deeds a ", " deeds a", "deed a",
                      "deeds a b c d e f g", "deeds a\tb", "limit 3", "Deeds a"]:
            self.assert_error(BadText, (1,), Desk.read, first)
            self.assert_error(BadText, (1,), Desk.read, first + "\nlimit 3")
        for wrong in ["", " ", "limit", "limit ", "limit 3 ", "limit 03", "limit 00", "limit -1", "limit None", "limit 3 z",
                      "limit 3 a a", "limit 3  a", "limit a", "limit 1" + "0" * 31, "limit 2" + "0" * 30, "drop", "drop z",
                      "drop m", "drop q ", "drop q q", "admit", "admit a", "admit A", "admit c d", "bar", "bar c", "bar a b",
                      "put m kept", "put m other done(a)", "put q kept done(a)", "put M kept done(a)", "put m  kept done(a)",
                      "put n kept done(a) ", "put n kept done(a,b)", "put n kept  done(a)", "put n kept done()",
                      "ask m carried done(a)", "ask p kept done(a)", "ask p done(a)", "ask p carried done(b) ",
                      "ask p carried turn(a, 7)", "put m kept done(a)", "put n kept recent(6)", "undo", "LIMIT 3",
                      "put n kept recent(01)", "deeds a b"]:
            self.assert_error(BadText, (4,), Desk.read, f"{head}\n{wrong}")
            self.assert_error(BadText, (4,), Desk.read, f"{head}\n{wrong}\nlimit 3")
            self.assert_error(BadText, (5,), Desk.read, f"{head}\nlimit 3\n{wrong}")
        self.assert_error(BadText, (4,), Desk.read, head + "\n")
        self.assert_error(BadText, (2,), Desk.read, "deeds a\n\nlimit 3")

    def test_very_long_numbers_and_lines(self):
        begin = time.time()
        for digits in (32, 4300, 5000, 200000):
            self.assert_error(BadText, (2,), Desk.read, "deeds a\nlimit " + "9" * digits)
            self.assert_error(BadText, (2,), Desk.read, "deeds a\nlimit " + "0" * digits)
        self.assert_error(BadText, (2,), Desk.read, "deeds a\nput m kept " + "not " * 100000 + "done(a)")
        self.assertEqual(Desk.read("deeds a\nlimit 1" + "0" * 30).timing.most, 10 ** 30)
        self.assertLess(time.time() - begin, 4)

    def test_signs_that_are_no_digits(self):
        for number in ["\u0663", "\u00b2", "3\u00a0", "1_0", "+3", "3.0", "0x3"]:
            self.assert_error(BadText, (2,), Desk.read, "deeds a\nlimit " + number)

    def test_facts_that_a_step_is_made_of(self):
        chance = random.Random(88)
        for _ in range(30):
            desk = Desk(("a", "b"))
            fact = some_fact(chance, desk.deeds)
            desk.put("m", fact, "kept")
            desk.put("n", fact, "cleared")
            again = Desk.read(desk.page)
            self.assertEqual((again["m"], again["n"]), (desk["m"], desk["n"]))


if __name__ == "__main__":
    unittest.main()
