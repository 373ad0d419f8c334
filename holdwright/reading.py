"""Texts read as programs; what is of no form is refused with the number of its row."""

from holdwright.conditions import Compare, Every, Several, Some, Turned
from holdwright.errors import NoText
from holdwright.programs import Helper, Program
from holdwright.steps import Call, Choose, Claim, Divide, Fetch, Let, Make, Put, Repeat
from holdwright.sums import sum_of

KEPT_WORDS = (
    "helper", "answers", "needs", "gives", "end", "let", "div", "mod", "put", "row", "at",
    "if", "else", "while", "holds", "falls", "call", "claim", "and", "or", "not",
)

SIGNS = ("<", "<=", "=", "!=", ">=", ">")

MOST_LETTERS = 8

MOST_FIGURES = 9

# The greatest number of MOST_FIGURES figures.
GREATEST = 999999999


def read(text):
    rows = text.split("\n")
    behind = rows.pop()
    source = Rows(rows)
    helpers = [read_helper(source)]
    while source.at < len(rows):
        helpers.append(read_helper(source))
    refuse_unless(behind == "", source.at)
    return Program(helpers)


def is_name(word):
    if not 1 <= len(word) <= MOST_LETTERS or word in KEPT_WORDS:
        return False
    return all(["a" <= sign <= "z" for sign in word])


def is_thing(word):
    return is_name(word) or (word.startswith("#") and is_name(word[1:]))


def is_figure_row(word):
    if not 1 <= len(word) <= MOST_FIGURES or (word[0] == "0" and word != "0"):
        return False
    return are_figures(word)


def are_figures(word):
    return all(["0" <= sign <= "9" for sign in word])


def refuse_unless(truth, at):
    if not truth:
        raise NoText(at)


# The rows of a text, each the list of its words, taken one by one. A blank too many makes an empty word, which is
# of no form wherever it stands.
class Rows:
    def __init__(self, rows):
        self.rows = [row.split(" ") for row in rows]
        self.at = 0

    def coming(self):
        return self.rows[self.at][0] if self.at < len(self.rows) else ""

    def take(self):
        refuse_unless(self.at < len(self.rows), self.at)
        self.at = self.at + 1
        return self.rows[self.at - 1]

    def take_just(self, word):
        at = self.at
        refuse_unless(self.take() == [word], at)


def read_helper(source):
    at = source.at
    words = source.take()
    refuse_unless(words[0] == "helper" and len(words) > 1 and is_name(words[1]), at)
    refuse_unless(all([is_thing(word) for word in words[2:]]), at)
    answers = read_answers(source)
    needs = read_writings(source, "needs")
    gives = read_writings(source, "gives")
    steps = read_steps(source)
    source.take_just("end")
    return Helper(at, words[1], words[2:], answers, needs, gives, steps)


def read_answers(source):
    if source.coming() != "answers":
        return []
    at = source.at
    answers = source.take()[1:]
    refuse_unless(len(answers) > 0 and all([is_name(word) for word in answers]), at)
    return answers


def read_writings(source, word):
    found = []
    while source.coming() == word:
        at = source.at
        found.append((at, condition_of(source.take()[1:], at)))
    return found


def read_steps(source):
    steps = []
    while source.coming() not in ("end", "else"):
        steps.append(read_step(source))
    return steps


def read_step(source):
    at = source.at
    words = source.take()
    if words[0] == "let":
        return read_let(words, at)
    if words[0] == "put":
        return read_put(words, at)
    if words[0] == "row":
        return read_make(words, at)
    if words[0] == "claim":
        return Claim(at, condition_of(words[1:], at))
    if words[0] == "if":
        return read_choose(source, condition_of(words[1:], at), at)
    if words[0] == "while":
        return read_repeat(source, condition_of(words[1:], at), at)
    refuse_unless(words[0] == "call", at)
    return read_call(words, at)


def read_choose(source, condition, at):
    then = read_steps(source)
    other = []
    if source.coming() == "else":
        source.take_just("else")
        other = read_steps(source)
        refuse_unless(len(other) > 0, source.at)
    source.take_just("end")
    return Choose(at, condition, then, other)


def read_repeat(source, condition, at):
    keeps = read_writings(source, "holds")
    falls = None
    if source.coming() == "falls":
        place = source.at
        falls = (place, sum_of_words(source.take()[1:], place))
    body = read_steps(source)
    source.take_just("end")
    return Repeat(at, condition, keeps, falls, body)


def read_let(words, at):
    refuse_unless(len(words) > 3 and is_name(words[1]) and words[2] == "=", at)
    name = words[1]
    rest = words[3:]
    for word in ("div", "mod"):
        if word in rest:
            place = rest.index(word)
            return Divide(at, name, word, sum_of_words(rest[:place], at), sum_of_words(rest[place + 1:], at))
    if len(rest) > 1 and rest[1] == "at":
        refuse_unless(is_name(rest[0]), at)
        return Fetch(at, name, rest[0], sum_of_words(rest[2:], at))
    return Let(at, name, sum_of_words(rest, at))


def read_put(words, at):
    refuse_unless(len(words) > 3 and is_name(words[1]) and words[2] == "at" and "=" in words, at)
    place = words.index("=")
    return Put(at, words[1], sum_of_words(words[3:place], at), sum_of_words(words[place + 1:], at))


def read_make(words, at):
    refuse_unless(len(words) > 3 and is_name(words[1]) and words[2] == "=", at)
    return Make(at, words[1], sum_of_words(words[3:], at))


def read_call(words, at):
    names = []
    rest = words[1:]
    if "=" in rest:
        place = rest.index("=")
        names = rest[:place]
        rest = rest[place + 1:]
        refuse_unless(len(names) > 0 and all([is_name(word) for word in names]), at)
    refuse_unless(len(rest) > 0 and is_name(rest[0]), at)
    return Call(at, names, rest[0], given_of(rest[1:], at))


def given_of(words, at):
    if len(words) == 0:
        return []
    return [sum_of_words(given.split(" "), at) for given in " ".join(words).split(", ")]


def sum_of_words(words, at):
    # Numbers alone are kept with the terms, as those of the thing "", which is none.
    weights = {"": 0}
    for sign, term in signed_terms(words, at):
        thing, weight = term_of(term, at)
        weights[thing] = weights.get(thing, 0) + (weight if sign == "+" else -weight)
    refuse_unless(all([abs(weight) <= GREATEST for weight in weights.values()]), at)
    return sum_of([(thing, weights[thing]) for thing in weights if thing != ""], weights[""])


def signed_terms(words, at):
    # Terms and signs stand by turns, so there is always one term more.
    refuse_unless(len(words) % 2 == 1, at)
    first = words[0]
    found = [("-", first[1:]) if first.startswith("-") else ("+", first)]
    for place in range(1, len(words), 2):
        refuse_unless(words[place] in ("+", "-"), at)
        found.append((words[place], words[place + 1]))
    return found


def term_of(term, at):
    if is_thing(term):
        return (term, 1)
    figures, star, thing = term.partition("*")
    refuse_unless(is_figure_row(figures) and (star == "" or is_thing(thing)), at)
    return (thing, int(figures))


def condition_of(words, at):
    source = Tokens(words, at)
    condition = read_condition(source)
    refuse_unless(source.coming() == "", at)
    return condition


# The words and the brackets of a condition, taken one by one.
class Tokens:
    def __init__(self, words, at):
        self.tokens = tokens_of(words, at)
        self.place = 0
        self.at = at

    def coming(self):
        return self.tokens[self.place] if self.place < len(self.tokens) else ""

    def take(self):
        token = self.coming()
        self.place = self.place + 1
        return token

    def take_just(self, token):
        refuse_unless(self.take() == token, self.at)

    def take_until(self, ends):
        taken = []
        while self.coming() != "" and self.coming() not in ends:
            taken.append(self.take())
        return taken


def tokens_of(words, at):
    # Brackets that open stand right ahead of a word, those that close right behind one: else blanks are wrong.
    found = []
    for word in words:
        behind = word.lstrip("(")
        bare = behind.rstrip(")")
        refuse_unless(bare != "", at)
        found.extend(["("] * (len(word) - len(behind)))
        found.append(bare)
        found.extend([")"] * (len(behind) - len(bare)))
    return found


def read_condition(source):
    parts = [read_part(source)]
    word = source.coming()
    if word not in ("and", "or"):
        # An Every or Some that comes as one part stood in brackets, and those have no use about the whole.
        refuse_unless(not isinstance(parts[0], Several), source.at)
        return parts[0]
    while source.coming() == word:
        source.take_just(word)
        parts.append(read_part(source))
    return Every(parts) if word == "and" else Some(parts)


def read_part(source):
    if source.coming() == "not":
        source.take_just("not")
        return Turned(read_bracketed(source))
    if source.coming() == "(":
        inner = read_bracketed(source)
        refuse_unless(isinstance(inner, Several), source.at)
        return inner
    return read_comparison(source)


def read_bracketed(source):
    source.take_just("(")
    condition = read_condition(source)
    source.take_just(")")
    return condition


def read_comparison(source):
    # Where no sign comes all is taken with the one, and the other, of no words, is refused.
    one = source.take_until(SIGNS)
    sign = source.take()
    other = source.take_until(("and", "or", ")"))
    return Compare(sum_of_words(one, source.at), sign, sum_of_words(other, source.at))
