"""Events as bytes (point 22)."""

import random
import unittest

from retrykeys.encoding import decode_events, encode_events
from retrykeys.errors import DecodeError, InvalidEvent
from retrykeys.runs import replay
from tests import oracle, oracle_texts, wrong
from tests.samples import COUNTER, SET_AND_INCREASE

DO, LOSE, CUT, FALL = ("do",), ("lose",), ("cut",), ("fall",)
TABLE = {
    DO: "00", LOSE: "01", CUT: "02", FALL: "03", ("late", 0): "04", ("late", 1): "05", ("late", 2): "06",
    ("late", 3): "07", ("late", 4): "08", ("late", 5): "09", ("late", 6): "0a", ("late", 7): "0b", ("late", 8): "0c",
    ("late", 9): "0d",
}


class Encode(unittest.TestCase):
    def index(self, events):
        with self.assertRaises(InvalidEvent, msg=events) as caught:
            encode_events(events)
        self.assertIs(type(caught.exception), InvalidEvent)
        return caught.exception.index

    def test_each_event(self):
        for event, code in TABLE.items():
            self.assertEqual(encode_events([event]), code)
            self.assertEqual(decode_events(code), [event])
        self.assertEqual(encode_events(list(TABLE)), "000102030405060708090a0b0c0d")
        self.assertEqual(decode_events("000102030405060708090a0b0c0d"), list(TABLE))
        self.assertEqual(set(TABLE), set(oracle.EVENTS))

    def test_nothing(self):
        self.assertEqual(encode_events([]), "")
        self.assertEqual(encode_events(()), "")
        self.assertEqual(decode_events(""), [])

    def test_lists_and_tuples(self):
        for kind in (list, tuple):
            self.assertEqual(encode_events(kind([DO, CUT, ("late", 9), DO])), "00020d00")
        self.assertEqual(encode_events(events=[DO]), "00")
        self.assertIs(type(encode_events([DO])), str)

    def test_events_need_not_be_possible(self):
        self.assertEqual(encode_events([("late", 5), FALL, DO, DO, DO, DO, LOSE]), "09030000000001")

    def test_what_is_not_a_list_of_events(self):
        for value in wrong.ANYTHING + [{0: DO}, {DO}, iter([DO]), "00", range(0), {DO: 0}, b"\x00"]:
            if not isinstance(value, (list, tuple)):
                self.assertIsNone(self.index(value))
        # A single event is a tuple of a word, which is not an event.
        self.assertEqual(self.index(DO), 0)
        self.assertEqual(self.index(("late", 3)), 0)

    def test_the_first_item_that_is_not_an_event(self):
        for event in wrong.EVENTS:
            self.assertEqual(self.index([event]), 0)
            self.assertEqual(self.index([DO, ("late", 9), event, DO, event]), 2)
            self.assertEqual(self.index((DO, event)), 1)
        for event in [(0, DO), (1, ("late", 2)), ("late", 10), ("late", 14), ("late", 252)]:
            self.assertEqual(self.index([DO, event]), 1)
        self.assertEqual(self.index([("late", True), ("late", 1)]), 0)
        self.assertEqual(self.index([("late", 1), ("late", True)]), 1)
        self.assertEqual(self.index([DO] * 300 + [None]), 300)

    def test_arguments_are_not_changed(self):
        events = [DO, ("late", 2)]
        encode_events(events)
        self.assertEqual(events, [DO, ("late", 2)])
        self.index(events + [None])
        self.assertEqual(events, [DO, ("late", 2)])

    def test_random(self):
        rng = random.Random(22)
        for _ in range(300):
            events = [rng.choice(oracle.EVENTS) for _ in range(rng.randrange(40))]
            text = oracle_texts.encode(events)
            self.assertEqual(encode_events(events), text)
            self.assertEqual(decode_events(text), events)
            changed = list(events)
            for _ in range(rng.randint(1, 3)):
                changed.insert(rng.randint(0, len(changed)), rng.choice(wrong.EVENTS))
            bad = [at for at, event in enumerate(changed) if not any(event is other for other in oracle.EVENTS)]
            self.assertEqual(self.index(changed), bad[0])


class Decode(unittest.TestCase):
    def offset(self, text):
        with self.assertRaises(DecodeError, msg=text) as caught:
            decode_events(text)
        self.assertIs(type(caught.exception), DecodeError)
        return caught.exception.offset

    def test_every_byte(self):
        for code in range(256):
            text = "%02x" % code
            if code < 14:
                self.assertEqual(decode_events(text), [list(TABLE)[code]])
            else:
                self.assertEqual(self.offset(text), 0)
                self.assertEqual(self.offset("00" + text), 1)
                self.assertEqual(self.offset("0d0d" + text + "00" + text), 2)

    def test_offsets_are_those_of_bytes(self):
        self.assertEqual(self.offset("000000ff"), 3)
        # The digits e and 0 stand side by side, but in two bytes.
        self.assertEqual(decode_events("030405"), [FALL, ("late", 0), ("late", 1)])
        self.assertEqual(self.offset("0e"), 0)
        self.assertEqual(self.offset("000d0e0d0e"), 2)
        self.assertEqual(self.offset("00" * 500 + "10"), 500)

    def test_what_is_not_pairs_of_digits(self):
        for text in ["0", "000", "0g", "g0", "0A", "0D", "0D00", " 00", "00 ", "0 0", "00 00", " ", "  ", "\n", "00\n",
                     "00\n\n", "0x00", "0x", "-1", "+1", "1_", "_1", "00,00", "\t0", "\u0660\u0660", "\uff10\uff10",
                     "\u00b2\u00b2", "0\u00e9", "\x000", "do", "lose", "0.", "ag"]:
            self.assertIsNone(self.offset(text))
        # Whatever byte stands before or behind.
        self.assertIsNone(self.offset("ff0"))
        self.assertIsNone(self.offset("ff0g"))
        self.assertIsNone(self.offset("0gff"))
        self.assertEqual(self.offset("aaff"), 0)

    def test_what_is_not_a_string(self):
        for value in wrong.NO_TEXTS:
            self.assertIsNone(self.offset(value))

    def test_results_are_new(self):
        first = decode_events("0002")
        self.assertIs(type(first), list)
        first.clear()
        self.assertEqual(decode_events("0002"), [DO, CUT])
        self.assertEqual({type(event) for event in decode_events(text="0004")}, {tuple})

    def test_a_decoded_run(self):
        events = [DO, CUT, LOSE, ("late", 0), DO, DO]
        decoded = decode_events(encode_events(events))
        self.assertEqual(
            replay((COUNTER,), SET_AND_INCREASE, ((), (0,)), (2,), decoded),
            replay((COUNTER,), SET_AND_INCREASE, ((), (0,)), (2,), events))

    def test_random(self):
        rng = random.Random(23)
        kinds = []
        for _ in range(1000):
            events = [rng.choice(oracle.EVENTS) for _ in range(rng.randint(1, 12))]
            text = oracle_texts.encode(events)
            for _ in range(rng.randrange(3)):
                text = changed(rng, text)
            expected, error = oracle_texts.decode(text)
            if error is None:
                self.assertEqual(decode_events(text), expected)
            else:
                self.assertEqual(self.offset(text), error[0], text)
            kinds.append(None if error is None else str(error[0]))
        self.assertGreater(kinds.count(None), 300)
        self.assertGreater(kinds.count("None"), 100)
        self.assertGreater(len(set(kinds)), 8)


def changed(rng, text):
    """A text with a character or a byte that is changed, removed, repeated, moved, or added."""
    at = rng.randrange(len(text) + 1)
    byte = at // 2 * 2
    kind = rng.randrange(7)
    if kind == 0:
        return text[:at] + rng.choice("0123456789abcdefgABCDEF \n") + text[at + 1:]
    if kind == 1:
        return text[:at] + text[at + 1:]
    if kind == 2:
        return text + rng.choice(["\n", "0", " ", "00", "0e", "ff"])
    if kind == 3:
        return text[:byte] + text[byte + 2:]
    if kind == 4:
        return text[:byte] + text[byte:byte + 2] + text[byte:]
    if kind == 5:
        return text[:byte] + "%02x" % rng.randrange(256) + text[byte + 2:]
    return text[:byte] + text[byte + 2:] + text[byte:byte + 2]


if __name__ == "__main__":
    unittest.main()
