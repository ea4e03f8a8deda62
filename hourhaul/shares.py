"""The shares of starts by an order, and the stores that are these [12.4]."""

from hourhaul.starts import most_from


def order_shares(net, order, last):
    shares = []
    ahead = 0
    for count in range(1, len(order) + 1):
        most = most_from(net, tuple(sorted(order[:count])), last)
        shares.append(most - ahead)
        ahead = most
    return shares


def shares_stores(net, order, last):
    shares = order_shares(net, order, last)
    return tuple([shares[order.index(place)] for place in range(net[0] - 1)] + [0])
