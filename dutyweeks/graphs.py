"""Graphs: dicts that have for each node a list of steps, pairs of a deal and the node to which it leads."""


def days_left(graph):
    """The greatest number of steps from each node from which all ways end; the other nodes are left out."""
    ahead = {node: [] for node in graph}
    for node in graph:
        for _, later in graph[node]:
            ahead[later].append(node)
    steps = {node: len(graph[node]) for node in graph}
    ended = [node for node in graph if not graph[node]]
    days = {}
    while len(days) < len(ended):
        node = ended[len(days)]
        days[node] = max([days[later] + 1 for _, later in graph[node]], default=0)
        for earlier in ahead[node]:
            steps[earlier] -= 1
            if steps[earlier] == 0:
                ended.append(earlier)
    return days


def round_from(graph, days, node):
    """Deals from the node on up to a node that comes again, and those from there round to it.

    The node is none of days, that is, of those from which all ways end.
    """
    deals = []
    places = {}
    now = node
    while now not in places:
        places[now] = len(deals)
        lasting = [step for step in graph[now] if step[1] not in days]
        deal, now = lasting[0]
        deals.append(deal)
    return tuple(deals[:places[now]]), tuple(deals[places[now]:])


def way_to(graph, node, goals):
    """The deals of a shortest way from the node to one of the goals, and this goal; None if there is no way."""
    seen = {node: True}
    ends = [((), node)]
    while ends:
        longer = []
        for deals, now in ends:
            if now in goals:
                return deals, now
            for deal, later in graph[now]:
                if later not in seen:
                    seen[later] = True
                    longer.append((deals + (deal,), later))
        ends = longer
    return None


def longest_way(graph, days, node):
    """The deals of a longest way from the node, which is one of days, that is, of those from which all ways end."""
    deals = []
    now = node
    while graph[now]:
        longest_steps = [step for step in graph[now] if days[step[1]] == days[now] - 1]
        deal, now = longest_steps[0]
        deals.append(deal)
    return tuple(deals)
