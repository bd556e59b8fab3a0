"""Nets written as texts."""

from planeyard.errors import NoNet
from planeyard.things import is_net


def written(net):
    if not is_net(net):
        raise NoNet("this is no net")
    count = net[0]
    return " ".join([f"net {count}"] + [f"{one}-{other}" for one, other in net[1]])
