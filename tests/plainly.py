"""What the document says of groups, ladders and rules, said again over sets and shapes, to test the program by."""

from functools import cmp_to_key, lru_cache
from itertools import combinations, product
from random import Random

FIGURES = 10 ** 60 - 1
OPENINGS = [("all(", 1), ("any(", 1)] + [(f"{many} of (", many) for many in range(1, 9)]


@lru_cache(maxsize=None)
def hands(group):
    """The set of the hands of a group, by the numbers that the document adds up."""
    return frozenset(hand for hand, number in enumerate([1, 2, 4, 8, 16, 32]) if group // number % 2)


def comes_before(one, two):
    ones, twos = hands(one), hands(two)
    if len(ones) != len(twos):
        return len(ones) < len(twos)
    unlike = ones ^ twos
    return bool(unlike) and min(unlike) in ones


def in_order(groups):
    return sorted(set(groups), key=cmp_to_key(lambda a, b: -1 if comes_before(a, b) else int(a != b)))


def lets_by(ladder, group):
    return any(hands(step) <= hands(group) for step in ladder)


def is_ladder(groups):
    apart = all(not hands(a) <= hands(b) for a in groups for b in groups if a != b)
    return isinstance(groups, list) and groups == in_order(groups) and apart


def all_ladders(count):
    """Each ladder of groups of so many hands."""
    found = [[]]
    for group in in_order(range(2 ** count)):
        found += [ladder + [group] for ladder in found if not lets_by(ladder, group)]
    return found


def six_handed_ladders():
    """Some ladders over six hands: small, wide and lopsided ones."""
    wide = [[sum(2 ** hand for hand in chosen) for chosen in combinations(range(6), size)] for size in range(7)]
    odd = [[], [1], [32], [1, 2], [3, 12, 48], [1, 6, 10, 12], [33, 18, 12], [16, 35, 41, 14], [31, 47], [7, 56]]
    return [in_order(ladder) for ladder in wide + odd]


def chosen_ladders(count, many):
    """So many ladders of groups of so many hands, by chance; the same ones at each run."""
    chance = Random(5)
    told = []
    for turn in range(many):
        groups = in_order(chance.randrange(2 ** count) for place in range(chance.randrange(1, 16)))
        told.append([group for group in groups if not lets_by([step for step in groups if step != group], group)])
    return told


def sized_ladders(count):
    """The ladders of all groups of a size, of so many hands."""
    groups = in_order(range(2 ** count))
    return [[group for group in groups if len(hands(group)) == size] for size in range(count + 1)]


def many_ladders():
    """Each ladder of one to four hands and some of five and six, each with the count of hands."""
    for count in range(1, 5):
        for ladder in all_ladders(count):
            yield count, ladder
    for count in [5, 6]:
        for ladder in [[], [0]] + sized_ladders(count) + chosen_ladders(count, 150):
            yield count, ladder
    for ladder in six_handed_ladders():
        yield 6, ladder


def parts_of(shape):
    """The shapes straight within a shape."""
    return () if shape[0] == "hand" else shape[-1]


def wanted_of(shape):
    return {"all": len(shape[-1]), "any": 1, "some": shape[1]}[shape[0]]


def shape_lets(shape, names):
    """Whether the rule of a shape lets the set of names by."""
    if shape[0] == "hand":
        return shape[1] in names
    return sum(shape_lets(part, names) for part in parts_of(shape)) >= wanted_of(shape)


def shape_text(shape):
    if shape[0] == "hand":
        return shape[1]
    opening = f"{shape[1]} of (" if shape[0] == "some" else shape[0] + "("
    return opening + ", ".join(shape_text(part) for part in parts_of(shape)) + ")"


def shape_size(shape):
    """How many parts a shape has, itself among them."""
    return 1 + sum(shape_size(part) for part in parts_of(shape))


def shape_depth(shape):
    """Within how many others the innermost part of a shape lies."""
    return max([1 + shape_depth(part) for part in parts_of(shape)], default=0)


def counting_shapes(parts):
    """Each shape that counts just these parts."""
    parts = tuple(parts)
    return [("all", parts), ("any", parts)] + [("some", many, parts) for many in range(1, len(parts) + 1)]


def shallow_shapes(names, most):
    """Each shape that is a hand, or counts one to so many hands."""
    hand_shapes = [("hand", name) for name in names]
    lists = [parts for many in range(1, most + 1) for parts in product(hand_shapes, repeat=many)]
    return hand_shapes + [shape for parts in lists for shape in counting_shapes(parts)]


def chosen_shape(chance, names, depth):
    """A shape by chance, of at most three parts at once."""
    if depth == 0 or chance.randrange(4) == 0:
        return ("hand", chance.choice(names))
    parts = [chosen_shape(chance, names, depth - 1) for place in range(chance.randrange(1, 4))]
    return chance.choice(counting_shapes(parts))


def chosen_shapes(names, many):
    """So many shapes over the names; the same ones at each run."""
    chance = Random(11)
    return [chosen_shape(chance, names, 1 + turn % 4) for turn in range(many)]


def chain_shape(names, depth):
    """A shape whose innermost hand lies within so many others, with two parts at once."""
    shape = ("hand", names[0])
    for turn in range(depth):
        beside = ("hand", names[turn % len(names)])
        shape = counting_shapes([beside, shape] if turn % 2 else [shape, beside])[turn % 4]
    return shape


def rule_ends(names, text, start):
    """The places behind each rule that stands at the start, and whether the text's end lies within one."""
    rest = text[start:]
    ends = {start + len(name) for name in names if rest.startswith(name)}
    cut = any(word.startswith(rest) for word in list(names) + [opening for opening, wanted in OPENINGS])
    for opening, wanted in OPENINGS:
        places = {start + len(opening)} if rest.startswith(opening) else set()
        for count in range(1, 9):
            found = [rule_ends(names, text, place) for place in places]
            cut = cut or any(within for behind, within in found)
            behind = {place for told, within in found for place in told}
            tails = ["", ","] if count < 8 else [""]
            cut = cut or any(text[place:] in tails for place in behind)
            ends |= {place + 1 for place in behind if count >= wanted and text[place:place + 1] == ")"}
            places = {place + 2 for place in behind if text[place:place + 2] == ", "}
    return ends, cut


def is_rule_text(names, text):
    return len(text) in rule_ends(names, text, 0)[0]


def begins_rule(names, text):
    """Whether a text of a rule begins with the text."""
    ends, cut = rule_ends(names, text, 0)
    return cut or len(text) in ends


def is_longest_beginning(names, text, at):
    """Whether a rule's text begins with so many signs of the text, and none with more of them."""
    # A longer one would do only if that of one sign more did, too.
    more = at < len(text) and begins_rule(names, text[:at + 1])
    return 0 <= at <= len(text) and begins_rule(names, text[:at]) and not more
