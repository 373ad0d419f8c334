"""What the tests of the looker, the mender and the desk share: programs of which all is shown, and how they run."""

from holdwright.errors import TooMany
from holdwright.looking import looked
from support import outcome, program_of

WRITINGS = ("needs", "gives", "holds", "falls", "claim")

# Of all of these each debt is shown.
SEARCH = ("helper find #a x", "answers lo", "gives 0 <= lo and lo <= #a", "let hi = #a", "while lo < hi",
          "holds 0 <= lo and lo <= hi", "holds hi <= #a", "falls hi - lo", "let mid = lo + hi div 2",
          "let y = a at mid", "if y < x", "let lo = mid + 1", "else", "let hi = mid", "end", "end", "end")

SORT = ("helper swap #a i j", "needs 0 <= i and i < #a", "needs 0 <= j and j < #a", "let x = a at i",
        "let y = a at j", "put a at i = y", "put a at j = x", "end",
        "helper sort #a", "answers n", "gives n = #a", "while n < #a", "holds 0 <= n and n <= #a", "falls #a - n",
        "let j = n", "while j > 0", "holds 0 <= j and j <= n", "falls j", "let x = a at j", "let y = a at j - 1",
        "if x < y", "call swap #a, j, j - 1", "end", "let j = j - 1", "end", "let n = n + 1", "end", "end")

GCD = ("helper gcd a b", "answers g", "needs a > 0 and b > 0", "gives g > 0 and g <= a and g <= b", "let x = a",
       "let y = b", "while x != y", "holds x > 0 and y > 0", "holds x <= a and y <= b", "falls x + y", "if x > y",
       "let x = x - y", "else", "let y = y - x", "end", "end", "let g = x", "end")

COUNT = ("helper count n", "answers s", "needs 0 <= n", "gives s = 2*n", "while i < n", "holds i <= n and s = 2*i",
         "falls n - i", "let i = i + 1", "let s = s + 2", "end", "end")


def too_many_paths(name):
    """The rows of a helper whose debts are too many: five choices, one behind the other, make 32 paths."""
    return ["helper " + name + " n", *["if n > 0", "let x = x + 1", "end"] * 5, "end"]


def words_of(program):
    """From each place at which something is owed to the list of its words; None where debts are too many."""
    found = {}
    for helper in program.helpers:
        try:
            answers = looked(program, helper.name)
        except TooMany:
            return None
        for kind, at, word, shown in answers:
            found.setdefault(at, []).append(word)
    return found


def pruned(rows):
    """The rows, those made otherwise at which a debt isn't shown: writings become ones that always hold, or are left
    out, and steps become one that goes wrong nowhere. None where debts are too many, or their cases are."""
    while True:
        words = words_of(program_of(*rows))
        if words is None:
            return None
        wrong = {at for at in words if set(words[at]) != {"shown"}}
        if not wrong:
            return rows
        changed = [harmless(row) if at in wrong else row for at, row in enumerate(rows)]
        if changed == rows:
            return None
        rows = [row for row in changed if row != ""]


def harmless(row):
    word = row.split(" ")[0]
    if word == "falls":
        return ""
    return word + " 0 = 0" if word in WRITINGS else "let i = i"


def whiles_without_falls(program):
    """How many loops of the program have no falls."""
    return written_rows(program, "while") - written_rows(program, "falls")


def written_rows(program, word):
    return sum(row.split(" ")[0] == word for helper in program.helpers for row in helper.as_rows())


def fault_of(program, name, given, *most):
    """The kind and place of the run's Fault, or None."""
    found = outcome(program, name, given, *most)
    return found[1:] if found[0] == "fault" else None
