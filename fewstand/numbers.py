"""Whole numbers, primes, and contraries over a prime."""

from fewstand.errors import NoNumber

PRIMES_END = 10000
LAST_START = 9000


def is_whole(thing):
    """Whether thing is an int that is neither True nor False."""
    return isinstance(thing, int) and not isinstance(thing, bool)


def is_within(thing, least, most):
    """Whether thing is a whole number from least to most."""
    return is_whole(thing) and thing >= least and thing <= most


def is_prime(thing):
    """Whether thing is a prime below 10000."""
    if not is_whole(thing) or thing < 2 or thing >= PRIMES_END:
        return False
    divisor = 2
    # Of two numbers with the product thing, one has a square not beyond it.
    while divisor * divisor <= thing:
        if thing % divisor == 0:
            return False
        divisor += 1
    return True


def prime_from(number):
    """The least prime that is not below number, a whole number from 0 to 9000."""
    if not is_whole(number) or number < 0 or number > LAST_START:
        raise NoNumber("a whole number from 0 to 9000 is asked for")
    prime = number
    while not is_prime(prime):
        prime += 1
    return prime


def contrary(prime, number):
    """The number by which the product of number over the prime is 1."""
    left = number % prime
    if left == 0:
        raise NoNumber("the prime divides the number")
    # Euclid's steps: over the prime, number times factor is always left.
    ahead, ahead_factor, factor = prime, 0, 1
    while left != 1:
        times = ahead // left
        ahead, left = left, ahead - times * left
        ahead_factor, factor = factor, ahead_factor - times * factor
    return factor % prime
