"""Cheapest carrying of whole stocks to whole needs, by steps from tree to tree."""


def cheapest_flow(stocks, needs, costs):
    """What goes from where to where at the least cost, and prices that show it.

    stocks and needs are lists of integers above 0 with the same sum, costs a list of
    rows of integers. The answer is a dict from pairs (from, to) to integers, and two
    dicts of prices.

    The stocks are made a little larger, by less than what counts in the end: then no
    amount of a tree is 0, each step lowers the cost, and no tree comes again.
    """
    many = len(stocks)
    blow = 2 * many + 1
    flow = corner_flow(
        [blow * stock + 1 for stock in stocks],
        [blow * need for need in needs[:-1]] + [blow * needs[-1] + many],
    )
    prices = tree_prices(flow, costs)
    cell = dearest_cell(prices, costs)
    while cell is not None:
        flow = shifted(flow, cell)
        prices = tree_prices(flow, costs)
        cell = dearest_cell(prices, costs)
    whole = {pair: (amount + many) // blow for pair, amount in flow.items()}
    return {pair: amount for pair, amount in whole.items() if amount > 0}, prices


def corner_flow(stocks, needs):
    """A first tree: each stock in turn goes to the first needs that are still open."""
    flow = {}
    row = 0
    column = 0
    left = stocks[0]
    lack = needs[0]
    while row < len(stocks) and column < len(needs):
        amount = min(left, lack)
        flow[(row, column)] = amount
        left = left - amount
        lack = lack - amount
        if left == 0:
            row = row + 1
            left = stocks[row] if row < len(stocks) else 0
        if lack == 0:
            column = column + 1
            lack = needs[column] if column < len(needs) else 0
    return flow


def tree_prices(flow, costs):
    """The prices, from 0 for the first stock on, that make just the cost of each pair in the tree."""
    first = {0: 0}
    second = {}
    waiting = sorted(flow)
    while waiting:
        later = []
        for row, column in waiting:
            if row in first:
                second[column] = costs[row][column] - first[row]
            elif column in second:
                first[row] = costs[row][column] - second[column]
            else:
                later.append((row, column))
        waiting = later
    return first, second


def dearest_cell(prices, costs):
    """The pair whose prices are above its cost by the most, the least of these; or None."""
    first, second = prices
    best = None
    most = 0
    for row, line in enumerate(costs):
        for column, cost in enumerate(line):
            above = first[row] + second[column] - cost
            if above > most:
                best = (row, column)
                most = above
    return best


def shifted(flow, cell):
    """The flow with as much as can be moved round the ring that the new pair closes in the tree."""
    more, less = ring(flow, cell)
    amount = min([flow[pair] for pair in less])
    after = {pair: flow[pair] for pair in flow}
    after[cell] = 0
    for pair in more:
        after[pair] = after[pair] + amount
    for pair in less:
        after[pair] = after[pair] - amount
    return {pair: many for pair, many in after.items() if many > 0}


def ring(flow, cell):
    """The pairs of the ring through the new pair: those that get more, and those that get less."""
    pairs = ring_pairs(flow, cell)
    more = []
    less = []
    at = cell
    while not more or at != cell:
        more.append(at)
        giving = [pair for pair in pairs if pair[0] == at[0] and pair[1] != at[1]][0]
        less.append(giving)
        at = [pair for pair in pairs if pair[1] == giving[1] and pair[0] != giving[0]][0]
    return more, less


def ring_pairs(flow, cell):
    """The pairs that are left when all that stand alone in their row or column are gone."""
    pairs = [cell] + sorted(flow)
    kept = without_ends(pairs)
    while len(kept) < len(pairs):
        pairs = kept
        kept = without_ends(pairs)
    return pairs


def without_ends(pairs):
    """The pairs that share their row with another one, and their column, too."""
    rows = [row for row, column in pairs]
    columns = [column for row, column in pairs]
    return [(row, column) for row, column in pairs if rows.count(row) > 1 and columns.count(column) > 1]
