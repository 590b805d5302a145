"""Trials: changes of a recorder that are taken back when a block ends."""


class Begun:
    """The states that a recorder had when a block began, and what the trial held before."""

    def __init__(self, states, earlier):
        self.states = states
        self.earlier = earlier


class Trial:
    """A context manager behind whose block a recorder is as it was."""

    def __init__(self, recorder):
        self.recorder = recorder
        # A chain, as a block of a trial may lie within another block of the same one.
        self.begun = None

    def __enter__(self):
        self.begun = Begun(self.recorder.states, self.begun)
        return self.recorder

    def __exit__(self, kind, value, trace):
        recorder = self.recorder
        recorder.states = self.begun.states
        self.begun = self.begun.earlier


def tried(recorder, look):
    """Call a function with the recorder within a trial, and return what it returns."""
    with Trial(recorder) as held:
        return look(held)
