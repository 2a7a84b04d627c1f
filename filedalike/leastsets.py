"""Families of sets of integers, told as ascending tuples."""


def subsets(items):
    """All parts of an ascending tuple, in told order."""
    for many in range(len(items) + 1):
        for part in parts_of_size(items, many):
            yield part


def parts_of_size(items, many):
    """The parts of an ascending tuple with so many items, ascending, a list."""
    if many == 0:
        return [()]
    return [
        (items[at],) + rest
        for at in range(len(items))
        for rest in parts_of_size(items[at + 1:], many - 1)
    ]


def told_order(family):
    """The members of a family in told order, a list."""
    return sorted(family, key=told_place)


def told_place(numbers):
    """What sets are ordered by: fewer numbers first, then ascending."""
    return len(numbers), numbers


def is_part(numbers, others):
    """Whether all numbers of a set are in another one."""
    return all([number in others for number in numbers])


def least_of(family):
    """The members of a family that have no other member as a part, in told order."""
    least = []
    # Every part of a set stands before it in told order.
    for numbers in told_order(family):
        if not any([is_part(other, numbers) for other in least]):
            least.append(numbers)
    return least


def blockers(family):
    """The least sets that share a number with each member of a family, in told order."""
    least = least_of(family)
    items = tuple(sorted({number for member in least for number in member}))
    return least_of([numbers for numbers in subsets(items) if all([shares(numbers, member) for member in least])])


def shares(numbers, others):
    """Whether two sets have a number in common."""
    return any([number in others for number in numbers])


def is_upward(family, items):
    """Whether adding any of these items to any member of a family gives a member."""
    return all([
        tuple(sorted(set(numbers + (item,)))) in family
        for numbers in family
        for item in items
    ])
