"""The mark of a question, for the files that questions.py imports from."""


class AnyQuestion:
    """What tells how often a row stands in an answer: every Question, and nothing else."""
