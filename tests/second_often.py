"""A second telling of the words, written apart from the package: way by way.

The words of the params are tried from the least on until all hold; a way is a list of pieces.
"""

from itertools import product

from tests.programs import function_named
from tests.second_run import bodies

MANY = 2


def ways(body):
    """All ways through the body."""
    if body[0] == "give":
        return [[body]]
    return [[body, *way] for at in bodies(body) for way in ways(body[at])]


def uses(piece):
    """The atoms of a piece, each with how it is used: lead, (f, k) or other."""
    match piece:
        case ("give" | "tell" | "if" | "case", a, *_):
            return [(a, "other")]
        case ("let", _, a, _):
            return [(a, "other")]
        case ("sum", _, _, a, b, _) | ("put" | "last", _, a, b, _):
            return [(a, "other"), (b, "other")]
        case ("call", _, f, args, _):
            return [(a, (f, k)) for k, a in enumerate(args)]
        case ("ask", _, _, a, _):
            return [(a, "other")]
        case ("keep", _, _, a, f, args, _):
            return [(a, "other")] + [(b, (f, k)) for k, b in enumerate(args)]
        case ("go", _, h, a, b, _):
            return [(h, "lead"), (a, "other"), (b, "other")]
    return []


def weight(way, name, weights):
    found = 0
    for piece in way:
        for atom, use in uses(piece):
            if atom == name:
                found += {"lead": 1, "other": 2}[use] if isinstance(use, str) else weights[use]
    return min(found, MANY)


def params(program):
    return {(f, k): name for f, held, _, _ in program[2] for k, (name, kind) in enumerate(held) if kind[0] == "hold"}


def second_params(program):
    """The words of the params, by rounds: each round weighs all anew by the round ahead."""
    named = params(program)
    found = {f: ways(function_named(program, f)[3]) for f, _ in named}
    weights = dict.fromkeys(named, 0)
    while True:
        anew = {key: max(weight(way, named[key], weights) for way in found[key[0]]) for key in named}
        if anew == weights:
            return {key: ("none", "one", "many")[w] for key, w in weights.items()}
        weights = anew


def all_fixed(program):
    """All weights of the params that are so for each of them; only for programs with few."""
    named = params(program)
    found = {f: ways(function_named(program, f)[3]) for f, _ in named}
    for tried in product(range(3), repeat=len(named)):
        weights = dict(zip(named, tried))
        if all(max(weight(way, named[key], weights) for way in found[key[0]]) == weights[key] for key in named):
            yield weights


def second_holds(program):
    weights = {key: ("none", "one", "many").index(word) for key, word in second_params(program).items()}
    words = {}
    for keeper in program[1]:
        for q, _, h, _, body in keeper[5]:
            found = ways(body)
            most = max(weight(way, h, weights) for way in found)
            used = [sum(atom == h for piece in way for atom, _ in uses(piece)) for way in found]
            lasts = [len(way) > 1 and way[-2][0] == "go" and way[-2][2] == h and way[-2][1] == way[-1][1] for way in found]
            words[keeper[0], q] = ("never" if most == 0 else "last" if all(lasts) and set(used) == {1}
                                   else ("never", "once", "often")[most])
    return words
