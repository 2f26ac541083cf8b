"""The text of a saying, and the saying of a text."""

from manyruns.bodies import is_saying
from manyruns.errors import BadText

WORDS_OF_ONE = ("not", "ahead", "ever")
WORDS_OF_TWO = ("and", "or", "since")


def say_text(saying):
    """The saying's text."""
    heads, body = saying
    return " ".join([f"{word} {run}" for word, run in heads]) + " : " + _body_text(body)


def _body_text(body):
    word = body[0]
    if word == "has":
        return f"{body[1]}.{body[2]}"
    if word == "alike":
        marks = ",".join(body[3])
        return f"{body[1]}~{body[2]}.{marks}"
    if word in WORDS_OF_ONE:
        return f"{word} {_body_text(body[1])}"
    return f"( {_body_text(body[1])} {word} {_body_text(body[2])} )"


def say_in(text):
    """The saying of which this is the text."""
    words = text.split(" ")
    if ":" not in words:
        raise BadText(text)
    at = words.index(":")
    heads = tuple([tuple(words[head:head + 2]) for head in range(0, at, 2)])
    saying = heads, _body_in(words[at + 1:])
    # What has been read, however odd, is the text's if it is one of which this is the text.
    if not is_saying(saying) or say_text(saying) != text:
        raise BadText(text)
    return saying


def _body_in(words):
    """What these words tell, if they tell a body; else whatever is no body, or has another text."""
    # From behind, all that a word is about has been read ahead of it.
    read = []
    for word in words[::-1]:
        if word in WORDS_OF_TWO:
            read.append(word)
        elif word in WORDS_OF_ONE and len(read) > 0:
            read.append((word, read.pop()))
        elif word == "(" and len(read) > 2:
            one, middle, other = read.pop(), read.pop(), read.pop()
            read.append((middle, one, other))
        elif word != ")":
            read.append(_leaf_in(word))
    return read[0] if len(read) == 1 else None


def _leaf_in(word):
    runs, _, marks = word.partition(".")
    if "~" not in runs:
        return "has", runs, marks
    one, _, other = runs.partition("~")
    return "alike", one, other, tuple(marks.split(","))
