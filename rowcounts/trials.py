"""Trials: blocks behind which something is as it was ahead of them.

What is tried keeps all that it is in one attribute, state, as a value that never changes.
"""


class Trial:
    """What a with statement takes; several of them may take one."""

    def __init__(self, held):
        self.held = held
        self.kept = None

    def __enter__(self):
        self.kept = Kept(self.held.state, self.kept)
        return self.held

    def __exit__(self, kind, value, trace):
        self.held.state = self.kept.state
        self.kept = self.kept.ahead


class Kept:
    """The state ahead of a block, and what was kept for the blocks around it."""

    def __init__(self, state, ahead):
        self.state = state
        self.ahead = ahead
