"""Graphs: for each node, a number from 0 on, the list of its links, tuples (node, price, step)."""


def turned(links):
    """For each node the list of those from which links go to it."""
    found = [[] for _ in links]
    for node, row in enumerate(links):
        for other, _, _ in row:
            found[other].append(node)
    return found


def marked(backward, goals):
    """For each node whether it is or leads to a goal, by lists as above."""
    found = [False] * len(backward)
    ahead = list(goals)
    for node in ahead:
        found[node] = True
    while ahead:
        node = ahead.pop()
        for other in backward[node]:
            if not found[other]:
                found[other] = True
                ahead.append(other)
    return found


def shortest_path(links, starts, goals):
    """The first node of a shortest path from some start to some goal, and the steps of its links. There is one."""
    came = {node: None for node in starts}
    queue = list(starts)
    at = 0
    while queue[at] not in goals:
        node = queue[at]
        for other, _, step in links[node]:
            if other not in came:
                came[other] = (node, step)
                queue.append(other)
        at += 1
    node = queue[at]
    steps = []
    while came[node] is not None:
        node, step = came[node]
        steps.append(step)
    return node, tuple(steps[::-1])


def groups_of(links):
    """The lists of nodes that lead to one another, each behind those to which it leads."""
    many = len(links)
    # When a node was found, the earliest time at which one was found to which it leads back, its next link to look at.
    times, earliest, at = [0] * many, [0] * many, [0] * many
    groups, waiting, time = [], [], 0
    for start in range(many):
        path = [] if times[start] else [start]
        while path:
            node = path[-1]
            if not times[node]:
                time += 1
                times[node] = earliest[node] = time
                waiting.append(node)
            newest = _newest_behind(links, node, at, times, earliest)
            if newest is not None:
                path.append(newest)
                continue
            path.pop()
            if earliest[node] == times[node]:
                group = [waiting.pop()]
                while group[-1] != node:
                    group.append(waiting.pop())
                for other in group:
                    earliest[other] = many + 1
                groups.append(group)
    return groups


def _newest_behind(links, node, at, times, earliest):
    """The next node to which the node has a link and that was not found yet, or None."""
    row, first = links[node], at[node]
    for number in range(first, len(row)):
        other = row[number][0]
        if not times[other]:
            # The link is looked at once more when all is known about the other node.
            at[node] = number
            return other
        if earliest[other] < earliest[node]:
            earliest[node] = earliest[other]
    at[node] = len(row)
    return None


def numbers_in(groups, many):
    """For each of so many nodes the number of its group."""
    found = [0] * many
    for number, group in enumerate(groups):
        for node in group:
            found[node] = number
    return found


def greatest_prices(links, groups):
    """For each node the greatest price of a path to it, None if there is no greatest one."""
    numbers = numbers_in(groups, len(links))
    prices = [0] * len(links)
    for number, group in list(enumerate(groups))[::-1]:
        found = [prices[node] for node in group]
        # A way round that costs something can be gone any number of times.
        dear = [node for node in group for other, price, _ in links[node] if price and numbers[other] == number]
        greatest = None if dear or None in found else max(found)
        for node in group:
            prices[node] = greatest
            for other, price, _ in links[node]:
                if numbers[other] < number:
                    prices[other] = _greater(prices[other], None if greatest is None else greatest + price)
    return prices


def _greater(one, other):
    return None if one is None or other is None else max(one, other)
