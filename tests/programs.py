"""What the tests of programs share: a sound program, and parts and kinds of names told a second time."""

from askladder.reader import read

# Keepers of no hears and of several, ifs and cases within both arms; functions called like asks, keepers
# and sorts of parts, names bound called like all of these.
RICH_TEXT = "\n".join((
    "ask q num to num",
    "ask r nums to num",
    "ask s num to nums",
    "keeper k note num takes num gives num",
    "end x n : let k be x + n ; tell k ; give k",
    "hears q x h n : let y be go h x n ; give y",
    "hears r x h n : if n : give 0 else let y be go h n 1 ; let z be go h y 1 ; let q be y + z ; give q end",
    "keeper plain note nums takes num gives nums",
    "end x n : let r be put x n ; give r",
    "keeper store note holds store s takes num gives num",
    "end x n : case n none give x more h rest : let e be empty nums ; let y be go h e rest ; give y end",
    "hears s x h n : let m be put h n ; let e be empty nums ; let f be last e x ; let y be go h f m ; give y",
    "hears q x h n : give x",
    "def hear x num to num : if x : let y be ask q x ; if y : give y else tell x ; give 1 end else "
    "let y be ask s 7 ; case y none give 0 more a b : let c be last b a ; give a end end",
    "def q a num b nums to num : case b none if a : give 1 else give 2 end more x y : "
    "case y none let z be call hear x ; give z more v w : if v : give v else tell a ; give 3 end end end",
    "def k to num : let x be call hear 5 ; let y be keep k x hear 6 ; give y",
    "def store a num to nums : let e be empty nums ; let r be keep plain e hear a ; give r",
    "def held h hold k q g holds store s to num : let x be go h 1 2 ; let e be empty nums ; "
    "case g none give x more one rest : let y be go one e rest ; let s be x + y ; give s end",
    "def main a num to num : let e be empty holds store s ; let x be keep store e hear a ; "
    "let b be empty nums ; let y be keep k 3 q a b ; give y",
))
RICH = read(RICH_TEXT)

NUM = ("num",)
NUMS = ("nums",)


def keeper_named(program, name):
    return next(keeper for keeper in program[1] if keeper[0] == name)


def function_named(program, name):
    return next(function for function in program[2] if function[0] == name)


def ask_named(program, name):
    return next(ask for ask in program[0] if ask[0] == name)


def begin_of(program, part):
    """(kinds of the names with which the part begins, its body), read off the program by hand."""
    if part[0] == "def":
        function = function_named(program, part[1])
        return dict(function[1]), function[3]
    keeper = keeper_named(program, part[1])
    if part[0] == "end":
        x, n, body = keeper[4]
        return {x: keeper[2], n: keeper[1]}, body
    q, x, h, n, body = next(hear for hear in keeper[5] if hear[0] == part[2])
    return {x: ask_named(program, q)[1], h: ("hold", part[1], q), n: keeper[1]}, body


def below(program, piece, kinds):
    """The bodies of a piece, each with the kinds of the names bound above it."""
    def kind(atom):
        return NUM if isinstance(atom, int) else kinds[atom]

    match piece:
        case ("give", _):
            return []
        case ("tell", _, body):
            return [(body, kinds)]
        case ("if", _, one, other):
            return [(one, kinds), (other, kinds)]
        case ("case", r, one, x, y, other):
            row = kind(r)
            thing = NUM if row == NUMS else ("hold", *row[1:])
            return [(one, kinds), (other, {**kinds, x: thing, y: row})]
        case ("let", x, a, body):
            told = kind(a)
        case ("sum", x, _, _, _, body):
            told = NUM
        case ("empty", x, told, body):
            pass
        case ("put", x, _, r, body):
            told = kind(r)
        case ("last", x, r, _, body):
            told = kind(r)
        case ("call", x, f, _, body):
            told = function_named(program, f)[2]
        case ("ask", x, q, _, body):
            told = ask_named(program, q)[2]
        case ("keep", x, k, _, _, _, body):
            told = keeper_named(program, k)[3]
        case ("go", x, h, _, _, body):
            told = keeper_named(program, kind(h)[1])[3]
    return [(body, {**kinds, x: told})]


def scoped(program, part):
    """A list of (piece, kinds of the names bound above it) of the part, in the text's order."""
    def spread(body, kinds):
        found = [(body, kinds)]
        for under, more in below(program, body, kinds):
            found.extend(spread(under, more))
        return found

    kinds, body = begin_of(program, part)
    return spread(body, kinds)


def parts_by_hand(program):
    parts = []
    for keeper in program[1]:
        parts.append(("end", keeper[0]))
        parts.extend(("hear", keeper[0], hear[0]) for hear in keeper[5])
    return parts + [("def", function[0]) for function in program[2]]
