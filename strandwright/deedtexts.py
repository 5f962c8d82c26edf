"""Joints, deeds and rows of deeds as texts."""

from strandwright.deeds import is_deed
from strandwright.errors import BadText
from strandwright.joints import is_joint

FIGURES = "0123456789"
DEED_FIGURES = 3
# How many numbers stand behind the word of a deed of lines.
NUMBERS_BEHIND = {"turn": 2, "change": 4}


def show_end(end):
    name = end[0]
    return f"<{name}" if end[1] == 0 else f"{name}>"


def show_joint(joint):
    return "~".join([show_end(end) for end in joint])


def show_joints(joints):
    return " ".join([show_joint(joint) for joint in joints])


def show_deed(deed):
    if isinstance(deed[0], str):
        return " ".join([str(part) for part in deed])
    gone = show_joints(deed[0])
    come = show_joints(deed[1])
    return f"{gone} to {come}"


def show_row(row):
    return "\n".join([show_deed(deed) for deed in row])


def read_number(word, most):
    if not 1 <= len(word) <= most or not all([sign in FIGURES for sign in word]):
        raise BadText()
    if len(word) > 1 and word[0] == "0":
        raise BadText()
    return int(word)


def read_end(word):
    if word.startswith("<"):
        return (word[1:], 0)
    if word.endswith(">"):
        return (word[:-1], 1)
    raise BadText()


def read_joint(word):
    joint = tuple([read_end(part) for part in word.split("~")])
    if not is_joint(joint):
        raise BadText()
    return joint


def read_line_deed(words):
    if len(words) != 1 + NUMBERS_BEHIND[words[0]]:
        raise BadText()
    return tuple(words[:1] + [read_number(word, DEED_FIGURES) for word in words[1:]])


def read_joints(words):
    return tuple([read_joint(word) for word in words])


def read_sides(words, middle):
    # The joints ahead of the one word in the middle, and those behind it.
    if words.count(middle) != 1:
        raise BadText()
    place = words.index(middle)
    return (read_joints(words[:place]), read_joints(words[place + 1:]))


def read_set_deed(words):
    deed = read_sides(words, "to")
    if not is_deed(deed):
        raise BadText()
    return deed


def read_deed(text):
    words = text.split(" ")
    if words[0] in NUMBERS_BEHIND:
        return read_line_deed(words)
    return read_set_deed(words)


def read_row(text):
    if not isinstance(text, str):
        raise BadText()
    if text == "":
        return []
    return [read_deed(row) for row in text.split("\n")]
