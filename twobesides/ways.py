"""Ways of stocks: where steps lead, one behind the other, in whatever order."""


def least_ways(first, steps, lead, most):
    """Return the dict of the least way from a first thing to each thing that comes of it, lesser ways first.

    A way is the tuple of the indices of its steps; lead tells what comes of a thing by a step. When
    more things than so many have been met, no more are looked for.
    """
    ways = {first: ()}
    found = [first]
    done = 0
    # The things are met in the order of their least ways: what is ahead of the last index of a
    # least way is a least way, too.
    while done < len(found) and len(found) <= most:
        thing = found[done]
        for index, step in enumerate(steps):
            behind = lead(thing, step)
            if behind not in ways:
                ways[behind] = ways[thing] + (index,)
                found.append(behind)
        done = done + 1
    return ways


def all_ahead(goals, behind):
    """Return the dict of all things from which some way leads to a goal; behind tells where steps lead each thing."""
    ahead = {}
    for thing in behind:
        for step in behind[thing]:
            ahead.setdefault(step, []).append(thing)
    met = {goal: True for goal in goals}
    found = list(goals)
    done = 0
    while done < len(found):
        for thing in ahead.get(found[done], []):
            if thing not in met:
                met[thing] = True
                found.append(thing)
        done = done + 1
    return met
