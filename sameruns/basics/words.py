"""Words of 32 bits and their parts."""

LEAST = -2147483648
GREATEST = 2147483647


def wrap(n):
    """Return the word that differs from an integer by a multiple of 2^32."""
    return (n - LEAST) % 4294967296 + LEAST


def unsigned(word):
    """Return the unsigned value of a word."""
    return word % 4294967296


def high(word):
    """Return the high part of a word: its low part and this one times 4096 make the word."""
    return (word - low(word)) // 4096 % 1048576


def low(word):
    """Return the low part of a word, from -2048 to 2047."""
    return (word + 2048) % 4096 - 2048
