"""Graphs: dicts from each node to the list of its links, tuples (node, price, step)."""


def turned(links):
    """The dict from each node to the list of those from which links go to it."""
    found = {node: [] for node in links}
    for node in links:
        for other, _, _ in links[node]:
            found[other].append(node)
    return found


def shortest_path(links, starts, goals):
    """The first node of a shortest path from some start to some goal, and the steps of its links. There is one."""
    came = {node: None for node in starts}
    queue = list(starts)
    at = 0
    while queue[at] not in goals:
        node = queue[at]
        for other, _, step in links[node]:
            if other not in came:
                came[other] = (node, step)
                queue.append(other)
        at += 1
    node = queue[at]
    steps = []
    while came[node] is not None:
        node, step = came[node]
        steps.append(step)
    return node, tuple(steps[::-1])


def _finished(links):
    """The nodes, each behind those that were found from it first in a search that goes on from the newest one."""
    order = []
    seen = set()
    for start in links:
        ahead = [] if start in seen else [(start, 0)]
        seen.add(start)
        while ahead:
            node, at = ahead.pop()
            if at == len(links[node]):
                order.append(node)
                continue
            ahead.append((node, at + 1))
            other, _, _ = links[node][at]
            if other not in seen:
                seen.add(other)
                ahead.append((other, 0))
    return order


def groups_of(links):
    """The lists of nodes that lead to one another, each ahead of those to which it leads."""
    backward = turned(links)
    grouped = set()
    groups = []
    for start in _finished(links)[::-1]:
        group = [] if start in grouped else [start]
        grouped.add(start)
        at = 0
        while at < len(group):
            node = group[at]
            for other in backward[node]:
                if other not in grouped:
                    grouped.add(other)
                    group.append(other)
            at += 1
        if group:
            groups.append(group)
    return groups


def numbers_in(groups):
    """The dict from each node to the number of its group."""
    return {node: number for number, group in enumerate(groups) for node in group}


def greatest_prices(links, groups):
    """The dict from each node to the greatest price of a path to it, None if there is no greatest one."""
    numbers = numbers_in(groups)
    prices = {node: 0 for node in links}
    for number, group in enumerate(groups):
        found = [prices[node] for node in group]
        inner = [price for node in group for other, price, _ in links[node] if numbers[other] == number]
        # A way round that costs something can be gone any number of times.
        greatest = None if None in found or any([price > 0 for price in inner]) else max(found)
        for node in group:
            prices[node] = greatest
            for other, price, _ in links[node]:
                if numbers[other] > number:
                    prices[other] = _greater(prices[other], None if greatest is None else greatest + price)
    return prices


def _greater(one, other):
    return None if one is None or other is None else max(one, other)
