"""Texts of facts: promises [77] and [78]."""

import random
import unittest

from betweenlooks.errors import BadText, TooMany
from betweenlooks.facts import (
    Ahead, And, Both, Changes, Count, Done, Ends, Has, Latest, Level, Not, Once, Or, Recent, Retold, Scattered, Since,
    Turn, Xor,
)
from betweenlooks.texts import fact_text, read_fact
from helpers import ErrorCase
from reckoning import some_fact

A = Done(("a",))
TEXTS = [
    (Done(("a", "b")), "done(a b)"),
    (Latest(("b", "a")), "latest(b a)"),
    (Count(("a", "b"), 3), "count(a b, 3)"),
    (Turn(["a", "b"], 59), "turn(a b, 59)"),
    (Level(("a",), ("b", "c"), 3), "level(a, b c, 3)"),
    (Ahead(("a",), ("b", "c")), "ahead(a, b c)"),
    (Recent(2), "recent(2)"),
    (Ends(("a", "a", "b")), "ends(a a b)"),
    (Has(("a", "a", "b")), "has(a a b)"),
    (Scattered(("a", "a", "b")), "scattered(a a b)"),
    (Since(("a", "b"), A), "since(a b, done(a))"),
    (Once(A, "yes"), "once(done(a), yes)"),
    (Once(A, "a/0"), "once(done(a), a/0)"),
    (Changes(A, 2), "changes(done(a), 2)"),
    (Retold(A, {"z": "y", "x": "y"}), "retold(done(a), x: y, z: y)"),
    (Retold(A, {"b": "1", "a/b": "2", "9": "3"}), "retold(done(a), 9: 3, a/b: 2, b: 1)"),
    (Retold(A, {}), "retold(done(a))"),
    (Not(A), "not done(a)"),
    (Not(Not(A)), "not not done(a)"),
    (And(A, Recent(1)), "(done(a) and recent(1))"),
    (Or(A, Recent(1)), "(done(a) or recent(1))"),
    (Xor(A, Recent(1)), "(done(a) xor recent(1))"),
    (Both(A, Recent(1)), "(done(a) with recent(1))"),
    (Not(And(Not(A), Or(A, A))), "not (not done(a) and (done(a) or done(a)))"),
    (Once(Since(("not",), Changes(Retold(A, {}), 1)), "x"), "once(since(not, changes(retold(done(a)), 1)), x)"),
    (Since(("since",), Since(("done", "and"), Has(("or", "with")))), "since(since, since(done and, has(or with)))"),
]
SIGNS = "abdnotwihxyr 0129(),:/|A_"


def some_long(characters):
    """A fact with a text of so many characters."""
    group = []
    while characters - len(f"done({' '.join(group)})") > 12:
        group.append(f"d{len(group):03d}")
    rest = characters - len(f"done({' '.join(group)})")
    return Done(group + ["z" * (rest - 1)] if rest > 1 else group[:-1] + [group[-1] + "z" * rest])


class Texts(ErrorCase):
    def test_the_text_of_every_kind(self):
        for fact, text in TEXTS:
            self.assertEqual(fact_text(fact), text)

    def test_read_back(self):
        for fact, text in TEXTS:
            read = read_fact(text)
            self.assertEqual(read, fact)
            self.assertIs(read.__class__, fact.__class__)

    def test_any_facts(self):
        chance = random.Random(77)
        for _ in range(300):
            fact = some_fact(chance, ["a", "b2", "not", "yes"], 5)
            text = fact_text(fact)
            self.assertEqual(read_fact(text), fact)
            self.assertEqual(fact_text(read_fact(text)), text)

    def test_the_table_that_is_read(self):
        fact = read_fact("retold(latest(a b), 0: x, a: y)")
        self.assertEqual(fact.pairs, (("0", "x"), ("a", "y")))
        self.assertEqual([fact.told(()), fact.told(("a",)), fact.told(("b",))], ["x", "y", "b"])

    def test_by_names(self):
        self.assertEqual(read_fact(text=fact_text(fact=A)), A)

    def test_two_thousand_characters_and_one_more(self):
        for characters in range(1988, 2001):
            fact = some_long(characters)
            text = fact_text(fact)
            self.assertEqual(len(text), characters)
            self.assertEqual(read_fact(text), fact)
        for characters in (2001, 2002, 2010):
            fact = some_long(characters)
            self.assert_error(TooMany, ("characters", 2001, 2000), fact_text, fact)
            self.assert_error(TooMany, ("characters", 2001, 2000), fact_text, And(A, Not(fact)))
            text = "done(" + " ".join(fact.group) + ")"
            self.assertEqual(len(text), characters)
            self.assert_error(BadText, (1,), read_fact, text)
        fact = Not(Not(some_long(1992)))
        self.assertEqual(len(fact_text(fact)), 2000)
        self.assert_error(TooMany, ("characters", 2001, 2000), fact_text, Not(fact))
        self.assert_error(BadText, (1,), read_fact, "not " + fact_text(fact))

    def test_facts_that_are_used_many_times(self):
        fact = A
        for _ in range(60):
            fact = And(fact, fact)
        self.assert_error(TooMany, ("characters", 2001, 2000), fact_text, fact)

    def test_a_hundred_levels(self):
        self.assertEqual(fact_text(read_fact("not " * 99 + "done(a)")), "not " * 99 + "done(a)")
        self.assert_error(BadText, (1,), read_fact, "not " * 100 + "done(a)")
        deep = "(" * 99 + "has(a)" + " or has(b))" * 99
        self.assertEqual(fact_text(read_fact(deep)), deep)
        self.assert_error(BadText, (1,), read_fact, f"({deep} or has(b))")
        right = "(has(a) xor " * 99 + "has(b)" + ")" * 99
        self.assertEqual(fact_text(read_fact(right)), right)
        self.assert_error(BadText, (1,), read_fact, f"(has(a) xor {right})")


class WrongTexts(ErrorCase):
    def assert_bad(self, *texts):
        for text in texts:
            self.assert_error(BadText, (1,), read_fact, text)

    def assert_own_text_or_bad(self, text):
        """The text is the text of the fact that is read, or nothing is read."""
        try:
            fact = read_fact(text)
        except BadText as error:
            self.assertEqual(error.line, 1)
            return 0
        self.assertEqual(fact_text(fact), text)
        return 1

    def test_by_hand(self):
        self.assert_bad(
            "", " ", "a", "done", "done(", "done()", "done(a", "done(a))", "(done(a))", "done(a) ", " done(a)",
            "done( a)", "done(a )", "done(a  b)", "done(a, b)", "done(a a)", "done(A)", "done(a-b)", "Done(a)",
            "done (a)", "done(thirteensigns)", "done(a)\n", "done(\u00e9)", "latest(a,b)", "latest(a b,)", "ends()",
            "ends(a a a a a a a a a a a a a)", "has(a,)", "scattered(1)", "scatter(a)", "unknown(a)", "(a)",
        )

    def test_numbers(self):
        self.assert_bad(
            "count(a)", "count(a, )", "count(a, 0)", "count(a, 60)", "count(a, 03)", "count(a, +3)", "count(a, -3)",
            "count(a,3)", "count(a,  3)", "count(a, 3, 3)", "count(a, 3 )", "count(, 3)", "count(3)", "count(a, b)",
            "count(a, \u0663)", "count(a, \u00b3)", "count(a, " + "9" * 1500 + ")", "turn(a, 1_0)", "turn(a b)",
            "recent()", "recent(0)", "recent(60)", "recent(01)", "recent(1, 1)", "recent(a)", "recent( 1)",
            "level(a, b)", "level(a, b, 0)", "level(a, b, 01)", "level(a, b, c, 1)", "level(a, , 1)",
            "level(a, b b, 1)", "ahead(a)", "ahead(a, )", "ahead(a, b, c)", "ahead(a, a a)", "ahead(a b)",
            "done(a, 3)", "ends(a, 3)", "latest(3)", "changes(done(a), 00)", "changes(done(a), 60)",
            "changes(done(a), 02)", "changes(done(a))", "changes(done(a), )", "changes(done(a), 2, 2)", "changes(2)",
            "changes(2, done(a))",
        )

    def test_facts_made_of_facts(self):
        self.assert_bad(
            "since(a)", "since(done(a))", "since(, done(a))", "since(a, done(a)", "since(a, done(a)))",
            "since(a,done(a))", "since(a,  done(a))", "since(a , done(a))", "since(a a, done(a))", "since(a, )",
            "since(a, b, done(a))", "since(a, done(a), 2)", "since(a, done(a), done(a))", "once(done(a))",
            "once(done(a), )", "once(done(a), Yes)", "once(done(a), yes, yes)", "once(done(a),yes)",
            "once(done(a), yes no)", "once(done(a)yes)", "once(done(a)x, yes)", "once(yes, done(a))", "once(, yes)",
            "once(done(a), " + "x" * 61 + ")", "retold(done(a), )", "retold(done(a), x)", "retold(done(a), x:y)",
            "retold(done(a), x: y,)", "retold(done(a), x: y z: y)", "retold(done(a), z: y, x: y)",
            "retold(done(a), x: y, x: y)", "retold(done(a), x: y, x: z)", "retold(done(a), x : y)",
            "retold(done(a), x: y: z)", "retold(done(a), : y)", "retold(done(a), x: )", "retold(x: y)", "retold()",
            "retold(done(a)x, x: y)", "retold(done(a), x:  y)", "retold(done(a),, x: y)", "retold(done(a) , x: y)",
            "retold(done(a)x)", "changes(done(a)x, 2)",
        )

    def test_signs(self):
        self.assert_bad(
            "not", "not ", "notdone(a)", "not  done(a)", "not (done(a))", "done(a) not", "(not done(a))",
            "(done(a) and)", "(and done(a))", "(done(a) and done(b)", "done(a) and done(b)", "(done(a)and done(b))",
            "(done(a) anddone(b))", "(done(a)  and done(b))", "(done(a) and  done(b))", "( done(a) and done(b))",
            "(done(a) and done(b) )", "(done(a) And done(b))", "(done(a) nor done(b))", "(done(a) , done(b))",
            "(done(a) and done(b) and done(c))", "(done(a) and done(b)) or done(c)", "((done(a) and done(b)))",
            "(done(a) and done(b)),", "(done(a) with done(b))with", "()", "(", ")", "((", "(done(a))", "(done(a) or)",
        )

    def test_brackets_a_thousand_deep(self):
        for piece in ("(", "not ", "once(", "retold(", "since(a, ", "changes(", "done(", ")", "(done(a) and "):
            text = piece * (1990 // len(piece))
            self.assert_bad(text, text + "done(a)", text + "done(a)" + ")" * 1000, piece * 3000)
        self.assert_bad("(" * 990 + ")" * 990)

    def test_spoiled_texts(self):
        chance = random.Random(78)
        texts = [text for _, text in TEXTS] + [fact_text(some_fact(chance, ["a", "b"], 4)) for _ in range(30)]
        read = 0
        for text in texts:
            for at in range(len(text) + 1):
                read += self.assert_own_text_or_bad(text[:at] + text[at + 1:])
                for sign in chance.sample(SIGNS, 2):
                    read += self.assert_own_text_or_bad(text[:at] + sign + text[at:])
                    read += self.assert_own_text_or_bad(text[:at] + sign + text[at + 1:])
        self.assertGreater(read, 50)

    def test_parts_doubled_and_words_exchanged(self):
        chance = random.Random(79)
        words = ["done", "latest", "count", "turn", "level", "ahead", "recent", "ends", "has", "scattered", "since",
                 "once", "changes", "retold", "not", "and", "or", "xor", "with", "a", "3", "yes", "03", ""]
        read = 0
        for _, text in TEXTS:
            for word in words:
                for other in words:
                    if word and word in text:
                        read += self.assert_own_text_or_bad(text.replace(word, other, 1))
            for _ in range(100):
                begin, end = sorted([chance.randint(0, len(text)), chance.randint(0, len(text))])
                read += self.assert_own_text_or_bad(text[:end] + text[begin:])
                read += self.assert_own_text_or_bad(text[:begin] + text[end:])
        self.assertGreater(read, 50)


if __name__ == "__main__":
    unittest.main()
