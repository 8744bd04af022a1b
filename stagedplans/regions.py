"""Regions and their users: to whom a region is open at a share."""

from math import gcd
from stagedplans.checks import are_integers, is_index, is_within
from stagedplans.errors import InvalidIndex, InvalidRank, InvalidRegion, InvalidShare, InvalidUser

FULL_SHARE = 1000


def is_region(value):
    """Tell whether any value is a region."""
    if not are_integers(value, 4):
        return False
    size, factor, shift, held = value
    if not 1 <= factor <= size or gcd(factor, size) != 1:
        return False
    return 0 <= shift < size and 0 <= held <= size


def is_share(value):
    """Tell whether any value is a share."""
    return is_within(value, 0, FULL_SHARE)


def is_user(value, region):
    """Tell whether any value is the number of a user of a region."""
    return is_index(value, region[0])


def rank_of(region, user):
    """Return the rank of a user."""
    check_region(region)
    check_user(user, region)
    return rank_in(region, user)


def user_of(region, rank):
    """Return the user with a rank."""
    check_region(region)
    size, factor, shift, _ = region
    if not is_index(rank, size):
        raise InvalidRank()
    return (rank - shift) * inverse_of(factor, size) % size


def open_count(region, share):
    """Return to how many users the region is open at a share."""
    check_region(region)
    check_share(share)
    return count_at(region, share)


def is_open(region, share, user):
    """Tell whether the region is open to a user at a share."""
    check_region(region)
    check_share(share)
    check_user(user, region)
    return rank_in(region, user) < count_at(region, share)


def least_share(region, user):
    """Return the least share at which the region is open to a user, or None."""
    check_region(region)
    check_user(user, region)
    size, _, _, held = region
    rank = rank_in(region, user)
    most = size - held
    if rank >= most:
        return None
    # The count is above the rank from the share s on with most * s >= FULL_SHARE * (rank + 1).
    return (FULL_SHARE * (rank + 1) + most - 1) // most


def count_open(region, share, first, last):
    """Return to how many of the users from first to last the region is open."""
    check_region(region)
    check_share(share)
    check_user(first, region)
    check_user(last, region)
    if last < first:
        return 0
    count = count_at(region, share)
    return open_before(region, count, last + 1) - open_before(region, count, first)


def nth_open(region, share, index):
    """Return the user with an index among those to whom the region is open."""
    check_region(region)
    check_share(share)
    count = count_at(region, share)
    if not is_index(index, count):
        raise InvalidIndex()
    return users_ahead(region, count, index)


def check_region(region):
    """Raise an error for what is no region."""
    if not is_region(region):
        raise InvalidRegion()


def check_share(share):
    """Raise an error for what is no share."""
    if not is_share(share):
        raise InvalidShare()


def check_user(user, region):
    """Raise an error for what is no user of a region."""
    if not is_user(user, region):
        raise InvalidUser()


def rank_in(region, user):
    """Return the rank of a user, without checks."""
    size, factor, shift, _ = region
    return (factor * user + shift) % size


def count_at(region, share):
    """Return the open count at a share, without checks."""
    size, _, _, held = region
    return (size - held) * share // FULL_SHARE


def greatest_share_to(region, count):
    """Return the greatest share with an open count that is not above a number from 0 on."""
    size, _, _, held = region
    if size == held:
        return FULL_SHARE
    # The count of a share s is above the number from (size - held) * s >= FULL_SHARE * (count + 1) on.
    return min(FULL_SHARE, (FULL_SHARE * (count + 1) - 1) // (size - held))


def inverse_of(factor, size):
    """Return the number below size whose product with factor leaves 1, as Euclid finds it."""
    old, new = size, factor % size
    # At each moment, old and new are what before * factor and now * factor leave.
    before, now = 0, 1
    while new > 0:
        times = old // new
        old, new = new, old - times * new
        before, now = now, before - times * now
    return before % size


def open_before(region, count, end):
    """Return how many of the users below end have a rank below count."""
    size, factor, shift, _ = region
    # For a user with x = factor * user + shift, x // size - (x - count) // size is
    # 1 if the rank is below count, otherwise 0. Adding size keeps the numbers from 0 on.
    whole = sum_of_quotients(end, size, factor, shift)
    less = sum_of_quotients(end, size, factor, shift + size - count)
    return whole - less + end


def sum_of_quotients(many, divisor, slope, start):
    """Return the sum of (slope * k + start) // divisor for all k from 0 to many - 1.

    Regions may have 30 digits, so the sum is not made one by one: it counts the points
    below a line, and each turn swaps the axes, as Euclid's divisions do.
    """
    total = 0
    while many > 0:
        total = total + (slope // divisor) * (many * (many - 1) // 2) + (start // divisor) * many
        top = (slope % divisor) * many + start % divisor
        many, start = top // divisor, top % divisor
        divisor, slope = slope % divisor, divisor
    return total


def users_ahead(region, count, index):
    """Return the greatest number of first users of whom at most index have a rank below count.

    The ranks of the users 0, 1, 2 .. go around a circle of as many places as there are users,
    with each step a stride further. A step weighs plain, more by past if it passes the end of
    the circle, and more by low if it begins below the bound; looked for are the most steps
    that weigh at most index together. A round, from one passing of the end to the next one,
    begins at a place below the stride, and the rounds one behind the other are the steps
    around a circle of just these places. So the circles are gone down, as Euclid's divisions
    go, and then up again.
    """
    size, factor, place, _ = region
    stride = factor % size
    bound, weights, rest = count, (0, 0, 1), index
    circles = []
    while stride > 0:
        if 2 * stride > size:
            # Seen in a mirror, the stride is short, and below the bound is not below it.
            plain, past, low = weights
            weights = (plain + past + low, -past, -low)
            stride, place, bound = size - stride, size - 1 - place, size - bound
        entry, ahead = place % stride, place // stride
        # The steps ahead of the place make the first round a whole one.
        rest = rest + weight_in_round(ahead, entry, stride, bound, weights)
        circles.append((size, stride, bound, weights, entry, ahead))
        weights = weights_of_rounds(size, stride, bound, weights)
        size, stride, place, bound = stride, -size % stride, entry, bound % stride
    steps, rest = divmod(rest, weights[0] + (weights[2] if place < bound else 0))
    for size, stride, bound, weights, entry, ahead in circles[::-1]:
        first = (entry - size * steps) % stride
        more = most_in_round(rest, first, size, stride, bound, weights)
        rest = rest - weight_in_round(more, first, stride, bound, weights)
        steps = (size * steps + first - entry) // stride + more - ahead
    return steps


def low_steps(first, stride, bound):
    """Return how many steps of a round that begins at a place begin below a bound."""
    return (bound - first + stride - 1) // stride


def weight_in_round(steps, first, stride, bound, weights):
    """Return the weight of steps of a round that begins at a place, without its last step."""
    plain, _, low = weights
    return plain * steps + low * min(steps, low_steps(first, stride, bound))


def weights_of_rounds(size, stride, bound, weights):
    """Return the weights of whole rounds, as steps around the smaller circle."""
    plain, past, low = weights
    # Each round has size // stride steps, and one more if it begins below size % stride:
    # just then its step around the smaller circle does not go past the end of that one.
    longer = plain if size % stride > 0 else 0
    return (plain * (size // stride) + past + low * (bound // stride) + longer, -longer, low)


def most_in_round(rest, first, size, stride, bound, weights):
    """Return the most steps of a round that begins at a place that weigh at most rest."""
    plain, _, low = weights
    lows = low_steps(first, stride, bound)
    if plain + low > 0 and rest // (plain + low) < lows:
        return rest // (plain + low)
    # The last step ends the round, which weighs more than rest.
    most = (size - first - 1) // stride
    if plain > 0:
        return min(most, lows + (rest - lows * (plain + low)) // plain)
    return most
