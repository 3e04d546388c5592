"""Errors that are looked at."""


def raised(error, call, *arguments):
    """The error of this kind that a call raises."""
    try:
        call(*arguments)
    except error as caught:
        return caught
    raise AssertionError(f"no {error.__name__}: {arguments}")
