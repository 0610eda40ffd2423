"""Programs of the document, wrong values of all kinds, and programs made by chance numbers."""

import random

from handedworld.base.procedures import Procedure, is_term
from handedworld.base.programs import Program
from handedworld.errors import InvalidProgram
from handedworld.house.desk import Desk
from handedworld.maps.spaces import Space
from handedworld.runs.runs import Run
from handedworld.text.shell import Shell

FLIP = ("do", "flip", (1, 0))
CHANCE = Program(2, (), Procedure("main", (), ("seq", ("and", FLIP, ("seq",)), ("or", FLIP, ("seq",)))))
EACH = Procedure("each", ("x",), ("seq", ("run", "x"), ("call", "each", ("run", "x"))))
FIND = Program(
    2,
    (),
    Procedure("main", (), ("scope", "out", ("call", "each", ("seq", ("do", "look", (1, 1)), ("exit", "out"))))),
    EACH,
)
WORK = Procedure("work", (), ("seq", ("raise", "need"), ("do", "use", (None, 1))))
GIVE = Program(
    2,
    ("need",),
    Procedure("main", (), ("answer", (("need", ("do", "give", (1, 1))),), ("call", "work"))),
    WORK,
)
TICK = Program(1, (), Procedure("main", (), ("seq", ("do", "tick", (0,)), ("call", "main"))))
BIG = 10**40 - 1


def nested(value, deep, kind):
    """The value within so many containers of a kind."""
    for _ in range(deep):
        value = {0: value} if kind is dict else kind([value])
    return value


def wrong_values():
    """Values of all kinds that [0.4] names; few of them are right for anything."""
    return [
        None, True, False, -1, 0, 1, 2, 3, 4, 7, 8, 41, BIG, -BIG,
        "", "a", "main", "need", "abcdefgh", "abcdefghi", "A", "a b", "do\n", "seq", "~!",
        (), (0,), (True,), (None,), ("seq",), ("seq", ("seq",)), ((),), (0, 1), (0, 0, 0, 0), (0, 1, 2, 3),
        (False, True, 2, 3), [0, 1, 2, 3], ("end", 1), ("end", True), ("deed", "x"), ["end", 1], ("main", (), ()),
        ["main", (), ()], ("main", [], ()), [], [[]], ["seq"], {}, {"a": 1}, {(): ()}, {("main", (), ()): (0, 0)},
        {("main", (), ()): [0, 0]}, {((0, 1),): (0, 1)}, {None: None}, {0: {}}, (("a", ("seq",)),),
        nested((), 20, tuple), nested(0, 20, list), nested("a", 20, dict), ("seq",) * 3000, (0,) * 3000, "a" * 3000,
        WORK, GIVE, Space(2), Run(CHANCE, 0), (WORK,), [WORK], (GIVE, 0), {"a": GIVE}, Desk(GIVE), Shell(), [Desk(GIVE)],
        "text a", ("main", ()), ("reach", 0, ("end", 1)), ("met", 0, ({},)), ("closed", {}), ("unmet", {}), (((),), 0, 0),
    ]


def is_int(value):
    return type(value) is int


def is_word(value):
    return type(value) is str and 1 <= len(value) <= 8 and set(value) <= set("abcdefghijklmnopqrstuvwxyz")


class Maker:
    """Makes terms and programs by chance numbers, the same ones in each run of the tests."""

    def __init__(self, seed):
        self.dice = random.Random(seed)
        self.labels = 0

    def deed(self, modes, sure):
        entries = list(range(modes)) if sure else list(range(modes)) + [None]
        table = tuple(self.dice.choice(entries) for _ in range(modes))
        return ("do", self.dice.choice(("up", "down", "go")), table)

    def leaf(self, world):
        """A term without terms in it; deeds come most often."""
        ways = ["do", "do", "do", "seq"]
        ways += ["run"] * 3 if world["blocks"] else []
        ways += ["exit"] * 3 if world["labels"] else []
        ways += ["raise"] * 2 if world["signals"] else []
        way = self.dice.choice(ways)
        if way == "do":
            return self.deed(world["modes"], world["sure"])
        if way == "seq":
            return ("seq",)
        return (way, self.dice.choice({"run": world["blocks"], "exit": world["labels"], "raise": world["signals"]}[way]))

    def term(self, depth, world):
        """A term of at most this depth; the world tells what may be named in it."""
        if depth <= 1 or self.dice.random() < 0.15:
            return self.leaf(world)
        ways = ["seq", "seq", "or", "and", "case", "scope"]
        ways += ["answer"] * 2 if world["signals"] else []
        ways += ["call"] * 4 if world["calls"] else []
        way = self.dice.choice([one for one in ways if one not in world["bans"]])
        return getattr(self, "make_" + way)(depth - 1, world)

    def make_seq(self, depth, world):
        return ("seq",) + tuple(self.term(depth, world) for _ in range(self.dice.randint(0, 3)))

    def make_or(self, depth, world):
        return ("or",) + tuple(self.term(depth, world) for _ in range(self.dice.randint(1, 3)))

    def make_and(self, depth, world):
        return ("and",) + tuple(self.term(depth, world) for _ in range(self.dice.randint(1, 3)))

    def make_case(self, depth, world):
        return ("case",) + tuple(self.term(depth, world) for _ in range(world["modes"]))

    def make_scope(self, depth, world):
        self.labels += 1
        label = "s" + "abcdefghijklmnopqrstuvwxyz"[self.labels % 26] + "abcdefghij"[self.labels // 26 % 10]
        return ("scope", label, self.term(depth, dict(world, labels=world["labels"] + (label,))))

    def make_answer(self, depth, world):
        many = self.dice.randint(1, len(world["signals"]))
        signals = sorted(self.dice.sample(world["signals"], many))
        pairs = tuple((signal, self.term(depth, world)) for signal in signals)
        return ("answer", pairs, self.term(depth, world))

    def make_call(self, depth, world):
        name, arity = self.dice.choice(world["calls"])
        return ("call", name) + tuple(self.term(depth, world) for _ in range(arity))

    def body(self, depth, world):
        """A term that can be a body."""
        while True:
            self.labels = 0
            term = self.term(depth, world)
            if is_term(term, world["blocks"]):
                return term

    def program(self, *, depth=4, loops=False, bans=(), sure=False, modes=None, signals=None):
        """A program of three procedures; without loops no procedure calls itself, also by others."""
        modes = self.dice.randint(1, 3) if modes is None else modes
        signals = self.dice.choice(((), ("hey",), ("ask", "hey"))) if signals is None else signals
        arities = {"main": 0, "one": self.dice.randint(0, 2), "two": self.dice.randint(0, 2)}
        below = {"main": ("one", "two"), "one": ("two",), "two": ()}
        rows = []
        for name in ("main", "one", "two"):
            called = tuple(arities) if loops else below[name]
            world = {
                "modes": modes, "signals": signals, "sure": sure, "labels": (), "bans": bans,
                "blocks": ("x", "y")[: arities[name]], "calls": tuple((one, arities[one]) for one in called),
            }
            rows.append(Procedure(name, world["blocks"], self.body(depth, world)))
        return Program(modes, signals, *rows)


def refused(case, error, call, *, keeps=None):
    """Whether a call raises just this error; where it keeps something, it keeps this."""
    try:
        call()
    except Exception as caught:
        case.assertIs(type(caught), error)
        if keeps is not None:
            name, value = keeps
            case.assertEqual(getattr(caught, name), value)
            case.assertIs(type(getattr(caught, name)), type(value))
        return
    case.fail(f"{error.__name__} was not raised")


def program_or_none(*told):
    """The program, or None if it is refused."""
    try:
        return Program(*told)
    except InvalidProgram:
        return None


# -- programs that need many contexts: blocks that grow, turn by turn, through all maps of modes --

TURN = ("do", "turn", (1, 2, 0))
SWAP = ("do", "swap", (1, 0, 2))
DROP = ("do", "drop", (0, 0, 2))
RUN_X = ("run", "x")


def turning(name, side, deeds):
    """A procedure that hands on its block with each of these deeds behind it."""
    calls = tuple(("call", name, ("seq", RUN_X, deed)) for deed in deeds)
    return Procedure(name, ("x",), (side, RUN_X) + calls)


def turning_two(name, side, deeds):
    """The same with two blocks, of which one grows at a time."""
    x, y = RUN_X, ("run", "y")
    calls = tuple(("call", name, ("seq", x, deed), y) for deed in deeds)
    calls += tuple(("call", name, x, ("seq", y, deed)) for deed in deeds)
    return Procedure(name, ("x", "y"), (side, ("seq", x, y)) + calls)


def crowd(side, *, last=1):
    """A program that needs 799 contexts, and so many more for the last procedure: from 1 to 3."""
    deeds = (TURN, SWAP, DROP)
    rows = [turning_two("p", side, deeds), turning("q", side, deeds), turning("r", side, deeds)]
    rows += [turning("s", side, (TURN, SWAP)), turning("t", side, (TURN, SWAP)), turning("u", side, (TURN,))]
    rows.append(turning("v", side, {1: (), 2: (DROP,), 3: (TURN,)}[last]))
    nothing = ("seq",)
    calls = tuple(("call", one.named) + (nothing,) * len(one.parameters) for one in rows)
    return Program(3, (), Procedure("main", (), (side,) + calls), *rows)


def swarm(side):
    """A program that needs far more than 800 contexts: its blocks become all relations of three modes."""
    deeds = (TURN, DROP, ("or", TURN, SWAP), ("do", "bar", (0, None, 2)))
    row = turning_two("p", side, deeds[:3])
    other = Procedure("q", ("x",), (side, ("run", "x"), ("call", "p", ("run", "x"), deeds[3])))
    return Program(3, (), Procedure("main", (), ("call", "q", ("seq",))), row, other)
