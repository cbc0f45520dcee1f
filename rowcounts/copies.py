"""Copies of the papers of judge.py, for those who keep papers and let others have them."""

from rowcounts.judge import Agreed, Leaf, Parted, Shown, Split


def copied(paper):
    """A new paper, equal to one that alike has returned; a part of such a one, too."""
    if isinstance(paper, Agreed):
        return Agreed(copied(paper.first), copied(paper.last))
    if isinstance(paper, Shown):
        return Shown(tuple([copied(tree) for tree in paper.trees]))
    if isinstance(paper, Split):
        return Split(paper.form, copied(paper.yes), copied(paper.no))
    return Parted(paper.row, paper.counts) if isinstance(paper, Parted) else Leaf(paper.weights)
