"""Numbers that grow as a polynomial does, told by their differences at 0."""


# The values at 0, 1, 2 and so on, one more of them than the degree, tell all others.
def differences(values):
    found = []
    row = list(values)
    while row:
        found.append(row[0])
        row = [later - earlier for earlier, later in zip(row, row[1:])]
    return found


# The choices are a product of k numbers in a row, from `at` downwards, divided
# by those from 1 to k: nothing is ever left over, where `at` is below 0 neither.
def value_at(found, at):
    value = 0
    choices = 1
    for k, difference in enumerate(found):
        value += difference * choices
        choices = choices * (at - k) // (k + 1)
    return value


def first_values(found, many):
    return [value_at(found, at) for at in range(many)]


# In how many ways two parts, with so many ways for each size, have a size together.
def parted(one, other):
    return [parted_at(one, other, at) for at in range(len(one))]


def parted_at(one, other, at):
    return sum([one[k] * other[at - k] for k in range(at + 1)])
