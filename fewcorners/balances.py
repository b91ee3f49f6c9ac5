"""Balances and tippings of lots of spokes."""
from fewcorners.balancing import balance_by, least_balances, tipping_by
from fewcorners.elimination import whole
from fewcorners.places import check_places
from fewcorners.ratios import product_sum, ratios_of
from fewcorners.tables import columns_of, is_numbers
from fewcorners.wheels import check_wheel, whole_by_places


def check_lot(wheel, places):
    """InvalidWheel unless a wheel, InvalidPlaces unless a lot of its spokes."""
    check_wheel(wheel)
    check_places(places, len(wheel))


def whole_tipping(wheel, places):
    """A tipping of the lot in integers; None if it has none."""
    check_lot(wheel, places)
    # A spoke made longer or shorter is tipped by the same normals.
    return tipping_by([whole(wheel[at]) for at in places])


def is_balanced(wheel, places):
    """Whether the lot of spokes balances."""
    return whole_tipping(wheel, places) is None


def balance(wheel, places):
    """A balance of the lot; None if it has none."""
    check_lot(wheel, places)
    rows = whole_by_places(wheel)
    numbers = balance_by([rows[at] for at in places])
    if numbers is None:
        return None
    return ratios_of(numbers)


def tipping(wheel, places):
    """A tipping of the lot; None if it has none."""
    normal = whole_tipping(wheel, places)
    if normal is None:
        return None
    return ratios_of(normal)


def is_balance(wheel, places, value):
    """Whether the value is a balance of the lot."""
    check_lot(wheel, places)
    if not is_numbers(value, len(places)) or not all([number.sign > 0 for number in ratios_of(value)]):
        return False
    columns = columns_of([wheel[at] for at in places], len(wheel[0]))
    return all([product_sum(value, column).sign == 0 for column in columns])


def is_tipping(wheel, places, value):
    """Whether the value is a tipping of the lot."""
    check_lot(wheel, places)
    if not is_numbers(value, len(wheel[0])):
        return False
    signs = [product_sum(value, wheel[at]).sign for at in places]
    return 1 in signs and -1 not in signs


def least_balanced(wheel):
    """The sorted list of all least balanced lots."""
    check_wheel(wheel)
    return sorted([lot for lot, _ in least_balances(whole_by_places(wheel))])
