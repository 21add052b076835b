"""Plans as texts (point 21)."""

import random
import unittest

from retrykeys.errors import ParseError
from retrykeys.texts import read, written
from tests import oracle_texts, samples, wrong
from tests.samples import BRANCHES, COUNTER, SET_AND_INCREASE, SWITCH, TRIVIAL, WITHOUT_CALLS

NONE = ((), ())
SHORT = "service\n  0/0\nworkflow\n  call 0 0 a\n  return a\nkeys 0\ncheckpoints\n"
COUNTED = """service
  0/0 1/1 0/0
  0/0 2/2 1/1
  0/0 0/0 2/2
workflow
  call 0 2 x
  if x 0 4
  call 0 0 y
  go 5
  call 0 1 y
  return y
keys 0 4
checkpoints 2
"""
TWO = """service
  0/0 1/1 1/1
  0/0 1/1 0/0
service
  0/0
workflow
  call 1 0 long
  call 0 2 longlong
  return z
keys
checkpoints 0 1
"""
PLANS = {
    SHORT: ((TRIVIAL,), (("call", 0, 0, "a"), ("return", "a")), ((0,), ())),
    COUNTED: ((COUNTER,), BRANCHES, ((0, 4), (2,))),
    TWO: ((SWITCH, TRIVIAL), (("call", 1, 0, "long"), ("call", 0, 2, "longlong"), ("return", "z")), ((), (0, 1))),
    "service\n  0/9\nworkflow\n  return a\nkeys\ncheckpoints\n": (((((0, 9),),),), (("return", "a"),), NONE),
}


class Written(unittest.TestCase):
    def test_by_hand(self):
        for text, plan in PLANS.items():
            self.assertEqual(written(*plan), text)
            self.assertEqual(read(text), plan)

    def test_keywords(self):
        plan = PLANS[TWO]
        self.assertEqual(written(system=plan[0], workflow=plan[1], protection=plan[2]), TWO)
        self.assertEqual(read(text=TWO), plan)

    def test_the_widest_plan(self):
        rows = tuple(tuple(((state + call) % 4, 9 - call) for call in range(3)) for state in range(4))
        workflow = (
            ("call", 1, 2, "abcdefgh"), ("if", "abcdefgh", 9, 9), ("call", 0, 0, "z"), ("go", 7), ("call", 1, 1, "z"),
            ("if", "zz", 0, 6), ("return", "zz"), ("call", 1, 0, "call"), ("return", "return"), ("return", "go"),
        )
        text = written((rows, rows), workflow, ((0, 2, 4, 7), (0, 2, 4, 7)))
        self.assertEqual(text, """service
  0/9 1/8 2/7
  1/9 2/8 3/7
  2/9 3/8 0/7
  3/9 0/8 1/7
service
  0/9 1/8 2/7
  1/9 2/8 3/7
  2/9 3/8 0/7
  3/9 0/8 1/7
workflow
  call 1 2 abcdefgh
  if abcdefgh 9 9
  call 0 0 z
  go 7
  call 1 1 z
  if zz 0 6
  return zz
  call 1 0 call
  return return
  return go
keys 0 2 4 7
checkpoints 0 2 4 7
""")
        self.assertEqual(read(text), ((rows, rows), workflow, ((0, 2, 4, 7), (0, 2, 4, 7))))

    def test_kinds(self):
        self.assertIs(type(written(*PLANS[SHORT])), str)
        system, workflow, protection = plan = read(COUNTED)
        self.assertIs(type(plan), tuple)
        self.assertEqual([type(part) for part in plan], [tuple] * 3)
        self.assertEqual({type(service) for service in system}, {tuple})
        self.assertEqual({type(row) for row in system[0]}, {tuple})
        self.assertEqual({type(pair) for row in system[0] for pair in row}, {tuple})
        self.assertEqual({type(number) for row in system[0] for pair in row for number in pair}, {int})
        self.assertEqual({type(step) for step in workflow}, {tuple})
        self.assertEqual([type(item) for item in workflow[0]], [str, int, int, str])
        self.assertEqual([type(item) for item in workflow[1]], [str, str, int, int])
        self.assertEqual([type(part) for part in protection], [tuple, tuple])

    def test_random(self):
        for plan, text in random_plans(2100, 500):
            self.assertEqual(written(*plan), text)
            self.assertEqual(read(text), plan)


def random_plans(seed, many):
    """Random plans with their texts by the independent writer."""
    for number in range(seed, seed + many):
        system, workflow, protection, _, _ = samples.random_case(number, 4, 1, 10)
        yield (system, workflow, protection), oracle_texts.write(system, workflow, protection)


class Lines(unittest.TestCase):
    def fails(self, line, text):
        with self.assertRaises(ParseError, msg=text) as caught:
            read(text)
        self.assertIs(type(caught.exception), ParseError)
        self.assertEqual(caught.exception.line, line, text)
        self.assertIs(type(caught.exception.line), int)

    def changed(self, text, index, line):
        """A text with another line at an index."""
        lines = text.split("\n")
        lines[index] = line
        return "\n".join(lines)

    def test_what_is_not_a_string(self):
        for value in wrong.NO_TEXTS + [list(SHORT), tuple(SHORT), SHORT.encode(), [SHORT], SHORT.split("\n")]:
            self.fails(0, value)

    def test_forms(self):
        """Lines that have no form, each at its place in a text that is right otherwise."""
        for index, line, bad in [
            (0, "service", ["Service", "services", "service ", " service", "  service", "service 0", "serv", "", "\t"]),
            (1, "  0/0", ["0/0", " 0/0", "   0/0", "\t0/0", "  0/0 ", "  0", "  0/", "  /0", "  /", "  0//0", "  0/0/0",
                          "  0 /0", "  0/ 0", "  00/0", "  0/00", "  0/000", "  0/0000", "  1000/0", "  0/1000", "  -1/0",
                          "  0/-1", "  +0/0", "  0/0  0/0", "  0/0,0/0", "  0/0\t0/0", "  a/0", "  0/a", "  0.0/0", "  ",
                          "   ", "  0/0 0", "  0 0/0", "  0\\0", "  0/0\r", "  01/0", "  \u0660/0", "  0/\u00b2", " ", ""]),
            (2, "workflow", ["Workflow", "workflows", "workflow ", " workflow", "  workflow", "workflow 0", "work", ""]),
            (3, "  call 0 0 a", [
                "call 0 0 a", " call 0 0 a", "   call 0 0 a", "  call  0 0 a", "  call 0  0 a", "  call 0 0  a",
                "  call 0 0 a ", "  call 0 0", "  call 0 a", "  call a", "  call", "  call 0 0 0", "  call 0 0 a a",
                "  call 0 0 0 a", "  call 00 0 a", "  call 0 00 a", "  call 01 0 a", "  call 0 1000 a", "  call -1 0 a",
                "  call a 0 0", "  call 0 0 A", "  call 0 0 abcdefghi", "  call 0 0 a1", "  call 0 0 a_", "  call x 0 a",
                "  call 0 x a", "  Call 0 0 a", "  call\t0 0 a", "  call 0 0 a\r", "  call 0 0 \u00e4", "  call 0 0 ",
                "  do 0 0 a", "  service", "  keys", "  ", " ", "", "  late 0", "  0 0 a", "  call 0/0 a", "  call0 0 a",
                "  if a 0", "  if a 0 4 4", "  if 0 0 4", "  if a 00 4", "  if a 0 04", "  if a b 4", "  if a 0 b", "  if",
                "  if a", "  if A 0 4", "  if a -1 4", "  if a 0 1000", "  if a  0 4", "  if  a 0 4", "  if abcdefghi 0 4",
                "  go", "  go ", "  go a", "  go 04", "  go 4 4", "  go  4", "  go 1000", "  go -4", "  go +4", "  go 4 ",
                "  return", "  return 0", "  return a b", "  return A", "  return abcdefghi", "  return  a", "  return a ",
                "  return ",
            ]),
            (5, "keys 0", ["Keys 0", "key 0", " keys 0", "  keys 0", "keys  0", "keys 0 ", "keys ", "keys a", "keys 00",
                           "keys 1000", "keys -1", "keys 0  1", "keys 0,1", "keys\t0", "keys0", "keys 0\r", "keys 0/0", "",
                           "keys 01", "keys 0 a", "keys \u0660", "0", "keys  ", "keys None"]),
            (6, "checkpoints", ["Checkpoints", "checkpoint", " checkpoints", "  checkpoints", "checkpoints ", "checkpoints a",
                                "checkpoints  0", "checkpoints 0 ", "checkpoints 00", "checkpoints 1000", "checkpoints -1",
                                "checkpoints0", "checkpoints\r", "checkpoints\t", ""]),
        ]:
            self.assertEqual(SHORT.split("\n")[index], line)
            for other in bad:
                self.fails(index, self.changed(SHORT, index, other))

    def test_what_may_follow_what(self):
        """Each sequence of up to eight lines that have forms, against the order that the document states."""
        lines = {"s": "service", "r": "  0/0", "w": "workflow", "t": "  return a", "k": "keys", "c": "checkpoints"}
        allowed = {"": "s", "s": "r", "r": "rsw", "w": "t", "t": "tk", "k": "c", "c": ""}
        waiting = [""]
        for beginning in waiting:
            for kind, line in lines.items():
                text = "".join(lines[k] + "\n" for k in beginning + kind)
                if kind not in allowed[beginning[-1:]]:
                    self.fails(len(beginning), text)
                    self.fails(len(beginning), text + "service\n")
                    self.fails(len(beginning), text + "more")
                elif len(beginning) < 8:
                    waiting.append(beginning + kind)
        whole = [kinds for kinds in waiting if kinds.endswith("c") and len(kinds) < 9]
        self.assertEqual(sorted(whole), sorted([
            "srwtkc", "srrwtkc", "srwttkc", "srsrwtkc", "srrrwtkc", "srwtttkc", "srrwttkc"]))
        for kinds in waiting:
            text = "".join(lines[k] + "\n" for k in kinds)
            if not kinds.endswith("c"):
                self.fails(len(kinds), text)
                self.fails(len(kinds), text + "service")
            elif kinds == "srwtkc":
                self.assertEqual(read(text), ((TRIVIAL,), (("return", "a"),), NONE))

    def test_characters_behind_the_last_line_feed(self):
        for more in ["x", " ", "service", "checkpoints", "  ", "\r", "0", "\t"]:
            self.fails(7, SHORT + more)
            self.fails(8, SHORT.replace("  0/0\n", "  0/0\n  0/0\n") + more)
        # Without its line feed, the last line is not a line.
        self.fails(6, SHORT[:-1])
        self.fails(6, SHORT[:-2])
        # What stands behind the last line feed is said before values that form no plan, and after a wrong line.
        self.fails(7, SHORT.replace("keys 0", "keys 9") + "x")
        self.fails(5, SHORT.replace("keys 0", "keys x") + "x")
        self.fails(6, SHORT.replace("keys 0", "keys 9")[:-1])

    def test_lines_behind_the_last_one(self):
        for more in ["\n", "checkpoints\n", "service\n", " \n", "x\n", "\n\n", "\nx"]:
            self.fails(7, SHORT + more)

    def test_missing_lines(self):
        lines = SHORT.split("\n")
        for many in range(7):
            self.fails(many, "".join(line + "\n" for line in lines[:many]))
            self.fails(many, "".join(line + "\n" for line in lines[:many]) + lines[many])
        self.fails(0, "")
        self.fails(0, "service")
        self.fails(0, "\n")
        self.fails(0, "x")
        self.fails(0, "workflow\n")

    def test_other_line_ends(self):
        self.fails(0, SHORT.replace("\n", "\r\n"))
        self.fails(0, SHORT.replace("\n", "\r"))
        for end in ["\x0b", "\x0c", "\x1c", "\x85", "\u2028", "\r"]:
            self.fails(6, SHORT[:-1] + end + "\n")
            self.fails(2, SHORT.replace("workflow\n", "workflow" + end))

    def test_values_that_form_no_plan(self):
        row = "  0/0\n"
        for old, new in [
            (row, "  1/0\n"), (row, "  0/10\n"), (row, "  999/0\n"), (row, "  0/999\n"), (row, "  0/0 0/0 0/0 0/0\n"),
            (row, row * 5), (row, row + "  0/0 0/0\n"), (row, "  0/0 0/0\n" + row), (row, row + "  2/0\n"),
            ("workflow", "service\n  0/0\nservice\n  0/0\nworkflow"), ("workflow", "service\n  0/0\nservice\n  1/0\nworkflow"),
            ("call 0 0 a", "call 1 0 a"), ("call 0 0 a", "call 0 1 a"), ("call 0 0 a", "call 2 0 a"),
            ("call 0 0 a", "call 0 3 a"), ("call 0 0 a", "call 999 999 a"), ("  return a\n", "  call 0 0 a\n"),
            ("call 0 0 a", "go 0"), ("call 0 0 a", "go 2"), ("call 0 0 a", "go 999"), ("call 0 0 a", "if a 10 1"),
            ("call 0 0 a", "if a 0 0"), ("call 0 0 a", "if a 0 2"), ("call 0 0 a", "if a 999 999"),
            ("call 0 0 a", "return a"), ("  return a\n", "  return a\n" * 10), ("  call 0 0 a\n", "  call 0 0 a\n" * 5),
            ("  return a\n", "  go 3\n"), ("  return a\n", "  if a 0 1\n"), ("  return a\n", "  return a\n  go 3\n"),
            ("keys 0", "keys 1"), ("keys 0", "keys 2"), ("keys 0", "keys 0 0"), ("keys 0", "keys 0 1"),
            ("keys 0", "keys 999"), ("checkpoints", "checkpoints 1"), ("checkpoints", "checkpoints 0 0"),
            ("checkpoints", "checkpoints 2"),
        ]:
            self.fails(0, SHORT.replace(old, new))
        self.fails(0, COUNTED.replace("keys 0 4", "keys 4 0"))
        self.fails(0, COUNTED.replace("checkpoints 2", "checkpoints 2 0"))
        self.fails(0, COUNTED.replace("checkpoints 2", "checkpoints 1"))
        self.fails(0, COUNTED.replace("call 0 0 y", "call 1 0 y"))
        self.fails(0, TWO.replace("call 1 0 long\n", "call 1 1 long\n"))

    def test_values_at_their_limits(self):
        row = "  0/0\n"
        for old, new in [
            (row, "  0/9\n"), (row, row * 4), (row, "  0/0\n  1/0\n"), (row, "  0/0 0/0 0/0\n"),
            ("workflow", "service\n  0/0\nworkflow"), ("  call 0 0 a\n", "  call 0 0 a\n" * 4),
            ("  return a\n", "  return a\n" * 9), ("  return a\n", "  if a 9 2\n  return abcdefgh\n"),
            ("keys 0", "keys"), ("checkpoints", "checkpoints 0"),
        ]:
            text = SHORT.replace(old, new)
            plan, error = oracle_texts.read(text)
            self.assertIsNone(error)
            self.assertEqual(read(text), plan)
            self.assertEqual(written(*plan), text)

    def test_the_first_wrong_line_counts(self):
        lines = SHORT.split("\n")
        for first in range(7):
            for second in range(first + 1, 7):
                text = self.changed(self.changed(SHORT, first, "x"), second, "y")
                self.fails(first, text)
                self.fails(first, text[:-1])
        self.assertEqual(len(lines), 8)
        # A line of a later kind is the wrong one, and not the line that is missing before it.
        self.fails(1, SHORT.replace("  0/0\n", ""))
        self.fails(3, SHORT.replace("  call 0 0 a\n  return a\n", ""))
        self.fails(5, SHORT.replace("keys 0\n", ""))

    def test_lines_that_stand_again(self):
        self.fails(1, "service\n" + SHORT)
        self.fails(3, SHORT.replace("workflow\n", "workflow\nworkflow\n"))
        self.fails(6, SHORT.replace("keys 0\n", "keys 0\nkeys 0\n"))
        self.fails(7, SHORT.replace("checkpoints\n", "checkpoints\ncheckpoints\n"))
        self.fails(7, SHORT + SHORT)
        self.fails(5, SHORT.replace("keys 0\ncheckpoints\n", "checkpoints\nkeys 0\n"))
        self.fails(0, "workflow\n  return a\nservice\n  0/0\nkeys\ncheckpoints\n")


class Random(unittest.TestCase):
    def agree(self, text):
        plan, line = oracle_texts.read(text)
        if line is None:
            self.assertEqual(read(text), plan)
            self.assertEqual(written(*plan), text)
        else:
            with self.assertRaises(ParseError, msg=text) as caught:
                read(text)
            self.assertEqual(caught.exception.line, line, text)
        return line

    def test_changed_lines(self):
        rng = random.Random(211)
        found = []
        for _, text in random_plans(2700, 400):
            for _ in range(6):
                other = text
                for _ in range(rng.choice([1, 1, 2])):
                    other = changed_line(rng, other)
                found.append(self.agree(other))
        self.assertGreater(found.count(None), 100)
        self.assertGreater(found.count(0), 200)
        self.assertGreater(len(set(found)), 20)

    def test_changed_characters(self):
        rng = random.Random(212)
        found = []
        for _, text in random_plans(3200, 400):
            for _ in range(8):
                other = text
                for _ in range(rng.choice([1, 1, 1, 2])):
                    at = rng.randrange(len(other) + 1)
                    other = other[:at] + rng.choice(["", rng.choice("0123456789 /\n\tabcegiklnorstwyzA-")]) + other[at + 1:]
                found.append(self.agree(other))
        self.assertGreater(found.count(None), 60)
        self.assertGreater(len(set(found)), 20)

    def test_changed_ends(self):
        rng = random.Random(213)
        for _, text in random_plans(3700, 300):
            self.agree(text[:rng.randrange(len(text))])
            self.agree(text + rng.choice(["x", " ", "\n", "0", "keys", "\r", "service\n", "checkpoints\n", "\n\n"]))
            self.agree(text[:-1] + rng.choice([" \n", " 0\n", "0\n", " 1\n", "", "\r\n", "x\n", " 9\n", " 10\n"]))
            # The last line is moved, or without its line feed.
            lines = text.split("\n")[:-1]
            self.agree("\n".join(lines[-1:] + lines[:-1]) + "\n")
            self.agree("\n".join(lines[:-1]) + "\n" + lines[-1])

    def test_numbers(self):
        rng = random.Random(214)
        found = []
        for _, text in random_plans(4100, 400):
            places = [at for at, letter in enumerate(text) if letter.isdigit()]
            for _ in range(5):
                at = rng.choice(places)
                number = rng.choice([str(rng.randrange(12)), str(rng.randrange(5)), "00", "01", "999", "1000", "-1", ""])
                found.append(self.agree(text[:at] + number + text[at + 1:]))
        self.assertGreater(found.count(None), 200)
        self.assertGreater(found.count(0), 200)


def changed_line(rng, text):
    """A text with a line that is changed, removed, repeated, moved, or added."""
    lines = text.split("\n")[:-1]
    if not lines:
        return "service\n"
    at = rng.randrange(len(lines))
    kind = rng.randrange(6)
    words = lines[at].split(" ")
    if kind == 0:
        del lines[at]
    elif kind == 1:
        lines.insert(at, lines[at])
    elif kind == 2:
        lines.insert(rng.randrange(len(lines)), lines.pop(at))
    elif kind == 3:
        lines.insert(at, rng.choice([
            "service", "  0/0", "  1/0 0/1", "workflow", "  call 0 0 a", "  if a 0 3", "  go 2", "  return a", "keys",
            "keys 0", "checkpoints", "checkpoints 0", "", " ", "  ", "x",
        ]))
    elif kind == 4:
        words.insert(rng.randint(0, len(words)), rng.choice(["0", "1", "a", "", "0/0", "10", "call"]))
        lines[at] = " ".join(words)
    else:
        words[rng.randrange(len(words))] = rng.choice(["0", "1", "2", "a", "", "0/0", "12", "go", "b", "00", "1/"])
        lines[at] = " ".join(words)
    return "".join(line + "\n" for line in lines)


if __name__ == "__main__":
    unittest.main()
