"""Sorts and values as texts, and read back."""

from lossbars.errors import BadText
from lossbars.forms import MOST_PARTS, check_value, side_sort, told_value
from lossbars.sorts import check_sort, sorts_within

# The first character of a sort's text tells its word.
HEADS = {"m": "mark", "c": "count", "b": "both", "e": "either", "l": "lane", "h": "heap"}
MOST_DEPTH = 12
MOST_LETTERS = 3
MOST_LENGTH = 8


def sort_text(sort):
    """The text of a sort."""
    check_sort(sort)
    return _written_sort(sort)


def value_text(sort, value):
    """The text of a value."""
    check_sort(sort)
    check_value(sort, value)
    return _written_value(sort, value)


def read_sort(text):
    """The sort that is so written."""
    if not isinstance(text, str):
        raise BadText(0)
    sort, end = _sort_at(text, 0, 1)
    _no_more(text, end)
    check_sort(sort)
    return sort


def read_value(sort, text):
    """The value of the sort that is so written; a heap's elements may stand in any order."""
    check_sort(sort)
    if not isinstance(text, str):
        raise BadText(0)
    data, end = _value_at(sort, text, 0)
    _no_more(text, end)
    return told_value(sort, data)


def _written_sort(sort):
    if sort[0] == "count":
        return "count"
    if sort[0] == "mark":
        return "mark(" + ",".join(sort[1]) + ")"
    return sort[0] + "(" + ",".join([_written_sort(part) for part in sorts_within(sort)]) + ")"


def _written_value(sort, value):
    if sort[0] == "mark":
        return value
    if sort[0] == "count":
        return str(value)
    if sort[0] == "both":
        return "(" + _written_value(sort[1], value[0]) + "," + _written_value(sort[2], value[1]) + ")"
    if sort[0] == "either":
        return _side_sign(value[0]) + _written_value(side_sort(sort, value[0]), value[1])
    head, tail = _store_signs(sort)
    return head + ",".join([_written_value(sort[1], part) for part in value]) + tail


def _side_sign(side):
    return "<" if side == "left" else ">"


def _store_signs(sort):
    return ("[", "]") if sort[0] == "lane" else ("{", "}")


def _no_more(text, at):
    if at < len(text):
        raise BadText(at)


def _behind(text, at, written):
    """The place behind what has to stand at a place; BadText at its first character that does not."""
    for sign in written:
        if text[at:at + 1] != sign:
            raise BadText(at)
        at += 1
    return at


def _sort_at(text, at, depth):
    """The sort that begins at a place, so many within one another, and the place behind it."""
    word = HEADS.get(text[at:at + 1])
    if word is None or (depth == MOST_DEPTH and word not in ("mark", "count")):
        raise BadText(at)
    at = _behind(text, at, word)
    if word == "count":
        return ("count",), at
    at = _behind(text, at, "(")
    if word == "mark":
        letters, at = _letters_at(text, at)
        return ("mark", letters), _behind(text, at, ")")
    part, at = _sort_at(text, at, depth + 1)
    found = (word, part)
    if word in ("both", "either"):
        part, at = _sort_at(text, _behind(text, at, ","), depth + 1)
        found = (word, found[1], part)
    return found, _behind(text, at, ")")


def _letters_at(text, at):
    letter, at = _word_at(text, at)
    letters = [letter]
    while len(letters) < MOST_LETTERS and text[at:at + 1] == ",":
        letter, at = _word_at(text, at + 1)
        letters.append(letter)
    return tuple(letters), at


def _word_at(text, at):
    end = at
    while end < len(text) and end < at + MOST_LENGTH and "a" <= text[end] <= "z":
        end += 1
    if end == at:
        raise BadText(at)
    return text[at:end], end


def _value_at(sort, text, at):
    """What tells the value that begins at a place, and the place behind it."""
    if sort[0] == "mark":
        return _letter_at(sort[1], text, at)
    if sort[0] == "count":
        return _number_at(text, at)
    if sort[0] == "both":
        first, at = _value_at(sort[1], text, _behind(text, at, "("))
        second, at = _value_at(sort[2], text, _behind(text, at, ","))
        return (first, second), _behind(text, at, ")")
    if sort[0] == "either":
        side = "right" if text[at:at + 1] == ">" else "left"
        part, at = _value_at(side_sort(sort, side), text, _behind(text, at, _side_sign(side)))
        return (side, part), at
    return _store_at(sort, text, at)


def _letter_at(letters, text, at):
    end = at
    while end < len(text) and any([letter.startswith(text[at:end + 1]) for letter in letters]):
        end += 1
    if text[at:end] not in letters:
        raise BadText(end)
    return text[at:end], end


def _number_at(text, at):
    if not _is_figure(text[at:at + 1]):
        raise BadText(at)
    end = at + 1
    if text[at] != "0" and _is_figure(text[end:end + 1]):
        end += 1
    return int(text[at:end]), end


def _is_figure(sign):
    return "0" <= sign <= "9"


def _store_at(sort, text, at):
    head, tail = _store_signs(sort)
    at = _behind(text, at, head)
    if text[at:at + 1] == tail:
        return (), at + 1
    part, at = _value_at(sort[1], text, at)
    parts = [part]
    while len(parts) < MOST_PARTS and text[at:at + 1] == ",":
        part, at = _value_at(sort[1], text, at + 1)
        parts.append(part)
    return tuple(parts), _behind(text, at, tail)
