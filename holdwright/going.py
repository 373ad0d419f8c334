"""Going along the way that leads to a debt."""


def along(ahead, numbers):
    if len(numbers) != len([row for row in ahead if row[0] == "any"]):
        return None
    things = {}
    taken = 0
    for row in ahead:
        if row[0] == "any":
            things[row[1]] = numbers[taken]
            taken = taken + 1
        elif row[0] == "let":
            things[row[1]] = row[2].value(things)
        elif not row[1].holds(things):
            return None
    return things
