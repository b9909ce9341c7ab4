"""How often what is held may be gone on with."""

from askladder.forms import ATOMS_AT, args_of, atoms_of, bodies_of, function_of
from askladder.parts import pieces

WORDS = ("none", "one", "many")
# Two and more are all the same.
MANY = 2


def weight_of_piece(piece, name, weights):
    """What the uses of the name in the piece itself weigh; weights has those of the params, by (f, k)."""
    weight = 0
    for at in ATOMS_AT[piece[0]]:
        if piece[at] == name:
            weight += 1 if piece[0] == "go" and at == 2 else MANY
    for k, arg in enumerate(args_of(piece)):
        if arg == name:
            weight += weights[(function_of(piece), k)]
    return weight


def weight_of_way(found, name, weights):
    """The greatest weight of the name on a way through the body that has the found pieces."""
    # From behind, so that the bodies beneath a piece are weighed ahead of it: the first of them last.
    below = []
    for piece in reversed(found):
        behind = 0
        for _ in bodies_of(piece):
            behind = max(behind, below.pop())
        below.append(min(MANY, behind + weight_of_piece(piece, name, weights)))
    return below[0]


def param_weights(program):
    """The least weights of the params of a hold's kind, by (f, k)."""
    found = {function[0]: pieces(function[3]) for function in program[2]}
    params = [
        (function[0], k, name)
        for function in program[2] for k, (name, kind) in enumerate(function[1]) if kind[0] == "hold"
    ]
    weights = {(f, k): 0 for f, k, name in params}
    grown = True
    while grown:
        grown = False
        for f, k, name in params:
            weight = weight_of_way(found[f], name, weights)
            if weight > weights[(f, k)]:
                weights[(f, k)] = weight
                grown = True
    return weights


def param_words(program):
    """A dict from (f, k), k the number of a param of f of a hold's kind, to its word."""
    return {key: WORDS[weight] for key, weight in param_weights(program).items()}


def is_last_go(piece, h):
    """True where the piece goes on with h, and right behind it what comes of that is given."""
    return piece[0] == "go" and piece[2] == h and piece[5] == ("give", piece[1])


def goes_last(found, h):
    """True where each way through the found pieces ends by a last go with h, and h has no other use."""
    gives = [piece for piece in found if piece[0] == "give"]
    lasts = [piece for piece in found if is_last_go(piece, h)]
    uses = [atom for piece in found for atom in atoms_of(piece) if atom == h]
    return len(uses) == len(lasts) == len(gives)


def hold_word(hear, weights):
    h = hear[2]
    found = pieces(hear[4])
    weight = weight_of_way(found, h, weights)
    if weight == 0:
        return "never"
    if goes_last(found, h):
        return "last"
    return "once" if weight == 1 else "often"


def hold_words(program):
    """A dict from (keeper, ask) to the word of the hear."""
    weights = param_weights(program)
    return {(keeper[0], hear[0]): hold_word(hear, weights) for keeper in program[1] for hear in keeper[5]}
