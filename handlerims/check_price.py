"""Whether papers about prices are right."""

from handlerims.bags import Bag, is_bag
from handlerims.checks import is_integer
from handlerims.errors import Misfit
from handlerims.papers import is_called
from handlerims.price import Price
from handlerims.rims import need_rims
from handlerims.weights import are_weights, weight_bound


def shows_weights(rims, value):
    """Whether the value is right Weights of these rims."""
    need_rims(rims, "rims")
    return are_weights(rims, value)


def shows_price(rims, value):
    """Whether the value is a Price of the rims, with any bag and any right weights that show it."""
    need_rims(rims, "rims")
    if not rims.is_short:
        raise Misfit("short")
    if not isinstance(value, Price) or not is_called(value, "Price"):
        return False
    if not is_integer(value.top) or not is_integer(value.bottom):
        return False
    if not is_bag(rims, value.walks) or not are_weights(rims, value.weights):
        return False
    return (value.top, value.bottom) == Bag(rims, value.walks).price == weight_bound(rims, value.weights)
