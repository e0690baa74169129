"""Hoists written as texts, and read from them."""

from hoistworks.errors import BadText, NoHoist
from hoistworks.hoist import Hoist


def shown(hoist):
    weights = [str(weight) for weight in hoist.weights()]
    lines = [written_line("weights", weights)]
    for rope in range(hoist.many_ropes()):
        lines.append(written_line("rope", written_pairs(hoist, rope)))
    return "".join(lines)


def written_line(name, words):
    return " ".join([name] + words) + "\n"


def written_pairs(hoist, rope):
    pairs = []
    for body in range(len(hoist.weights())):
        number = hoist.strands(rope, body)
        if number != 0:
            pairs.append(f"{body}:{number}")
    return pairs


def read(text):
    hoist = loosely_read(text)
    # A hoist is written in one way alone, so this finds whatever was overlooked in reading.
    if shown(hoist) != text:
        raise BadText("not written as a hoist is")
    return hoist


def loosely_read(text):
    lines = text.split("\n")
    weights = [read_number(word) for word in words_behind_name(lines[0])]
    ropes = [read_rope(line) for line in lines[1:-1]]
    try:
        return Hoist(weights, ropes)
    except NoHoist:
        raise BadText("no hoist is written") from None


def words_behind_name(line):
    return line.split(" ")[1:]


def read_rope(line):
    return [read_pair(word) for word in words_behind_name(line)]


def read_pair(word):
    halves = word.partition(":")
    return (read_number(halves[0]), read_number(halves[2]))


def read_number(word):
    try:
        return int(word)
    except ValueError:
        raise BadText("no number where one is to stand") from None
