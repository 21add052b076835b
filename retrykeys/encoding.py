"""Events as bytes, written as strings of two digits for each byte."""

from retrykeys.errors import DecodeError, InvalidEvent
from retrykeys.runs import is_event

# The place of a word is its byte.
WORDS = ("do", "lose", "cut", "fall")
FIRST_LATE = 4
SIZE = 14


def code_of(event):
    """Return the byte that encodes an event."""
    return FIRST_LATE + event[1] if event[0] == "late" else WORDS.index(event[0])


def event_of(code):
    """Return the event that a byte below SIZE encodes."""
    return (WORDS[code],) if code < FIRST_LATE else ("late", code - FIRST_LATE)


def are_bytes(value):
    """Tell whether any value is a string of pairs of digits."""
    if not isinstance(value, str) or len(value) % 2 != 0:
        return False
    return all([digit in "0123456789abcdef" for digit in value])


def encode_events(events):
    """Return the string that encodes a list or tuple of events."""
    if not isinstance(events, (list, tuple)):
        raise InvalidEvent(None)
    for index, event in enumerate(events):
        if not is_event(event):
            raise InvalidEvent(index)
    return "".join([f"{code_of(event):02x}" for event in events])


def decode_events(text):
    """Return the list of the events that a string encodes."""
    if not are_bytes(text):
        raise DecodeError(None)
    codes = [int(text[at:at + 2], 16) for at in range(0, len(text), 2)]
    for offset, code in enumerate(codes):
        if code >= SIZE:
            raise DecodeError(offset)
    return [event_of(code) for code in codes]
