"""A run that is under way, step by step."""

from handedworld.errors import InvalidOperation

# What a term means where it is written, its scene, is a triple of dicts: from
# parameters to the blocks that are handed for them, from labels to the heights of
# their scopes, and from signals to the answers that stand around. A block and an
# answer are each a pair of a term and the scene in which it is written.


def take_deed(walk, term, scene):
    """A deed is done, or the run is stuck."""
    after = term[2][walk.now]
    if after is None:
        walk.fate = "stuck"
        return
    walk.now = after
    walk.trail.append(after)
    walk.done.append(term[1])
    if term[1] == walk.last:
        walk.fate = "done"


def take_sequence(walk, term, scene):
    """The terms of a sequence come in its place."""
    for part in term[:0:-1]:
        walk.left.append((part, scene))


def take_choice(walk, term, scene):
    """The term with the chosen index comes in the place of a choice."""
    index = walk.told[walk.used]
    if index >= len(term) - 1:
        raise InvalidOperation("a choice is not the index of a term")
    walk.used += 1
    walk.left.append((term[1 + index], scene))


def take_case(walk, term, scene):
    """The term of the present mode comes in the place of a case."""
    walk.left.append((term[1 + walk.now], scene))


def take_run(walk, term, scene):
    """The block comes in the place of running it."""
    walk.left.append(scene[0][term[1]])


def take_call(walk, term, scene):
    """The body comes in the place of a call, with its blocks and the answers around it."""
    procedure = walk.text[term[1]]
    blocks = {x: (block, scene) for x, block in zip(procedure.parameters, term[2:])}
    walk.left.append((procedure.body, (blocks, {}, scene[2])))


def take_scope(walk, term, scene):
    """A scope is opened; an exit cuts what is left down to its height."""
    height = len(walk.left)
    walk.around.append((term[1], height))
    walk.left.append((term[2], (scene[0], {**scene[1], term[1]: height}, scene[2])))


def take_exit(walk, term, scene):
    """All that is left of the scope falls away."""
    del walk.left[scene[1][term[1]]:]


def take_raise(walk, term, scene):
    """The answering term comes in the place of a raise, or the signal comes out."""
    if term[1] in scene[2]:
        walk.left.append(scene[2][term[1]])
        return
    walk.fate = "asking"
    walk.out = term[1]


def take_answer(walk, term, scene):
    """The last term comes, and what is raised in it is answered by the other ones."""
    helps = {signal: (part, scene) for signal, part in term[1]}
    walk.left.append((term[2], (scene[0], scene[1], {**scene[2], **helps})))


STEPS = {
    "do": take_deed,
    "seq": take_sequence,
    "or": take_choice,
    "and": take_choice,
    "case": take_case,
    "run": take_run,
    "call": take_call,
    "scope": take_scope,
    "exit": take_exit,
    "raise": take_raise,
    "answer": take_answer,
}


class Walk:
    """What is left of a run, and what it has done so far."""

    def __init__(self, program, start, told, last):
        self.text = program
        self.told = told
        self.used = 0
        self.last = last
        self.now = start
        self.trail = [start]
        self.done = []
        self.taken = 0
        self.fate = None
        self.out = None
        self.left = [(program["main"].body, ({}, {}, {}))]
        self.around = []

    def term_ahead(self):
        """The term that is taken next."""
        return self.left[-1][0]

    def settle(self, limit):
        """The run stops here if there is a reason; the first one counts."""
        if self.fate is not None:
            return
        if len(self.left) == 0:
            self.fate = "ended"
        elif self.taken == limit:
            self.fate = "far"
        elif self.term_ahead()[0] in ("or", "and") and self.used == len(self.told):
            self.fate = "waiting"

    def step(self):
        """The next term is taken."""
        term, scene = self.left.pop()
        self.taken += 1
        take = STEPS[term[0]]
        take(self, term, scene)
        while len(self.around) > 0 and self.around[-1][1] >= len(self.left):
            self.around.pop()

    def go(self, limit):
        """The run goes on until it stops; it uses all that is told, or is refused."""
        self.settle(limit)
        while self.fate is None:
            self.step()
            self.settle(limit)
        if self.used < len(self.told):
            raise InvalidOperation("choices are left where the run stops")
