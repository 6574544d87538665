"""The one way in which a parameter is refused."""

from stubbornest.errors import NotUsable


def require(good, word):
    """Refuses the parameter called word unless it is good."""
    if not good:
        raise NotUsable(word, -1)
