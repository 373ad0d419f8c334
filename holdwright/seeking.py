"""Seeking either a paper that refutes a case, or numbers that meet it."""

from holdwright.eliminating import eliminated
from holdwright.errors import TooHard
from holdwright.papers import other_side

MOST_PARTS = 16


def sought(case):
    return Search().seek(tuple(case))


# What is sought for one case: it keeps how many parts splits have made by now.
class Search:
    def __init__(self):
        self.parts = 0

    def seek(self, sums):
        word, found = eliminated(sums)
        if word != "split":
            return (word, found)
        papers = []
        for side in (found, other_side(found)):
            word, what = self.seek_part(sums + (side,))
            if word == "some":
                return (word, what)
            papers.append(what)
        return ("none", (("split", found, papers[0], papers[1]),))

    def seek_part(self, sums):
        if self.parts == MOST_PARTS:
            raise TooHard(f"more than {MOST_PARTS} parts")
        self.parts = self.parts + 1
        return self.seek(sums)
