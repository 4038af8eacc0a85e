"""What refuses things that are not of the kind that is asked for."""

from stemkeep.errors import NoJob, NoRef, NoWorth
from stemkeep.keys import is_asking_reference, is_reference, is_worth


def need_reference(thing):
    """Refuse anything that is no reference."""
    if not is_reference(thing):
        raise NoRef()


def need_asking_reference(thing):
    """Refuse anything that is no reference with a key, the last of which may also be the empty text."""
    if not is_asking_reference(thing):
        raise NoRef()


def need_worth(thing):
    """Refuse anything that is no worth."""
    if not is_worth(thing):
        raise NoWorth()


def need_job(thing):
    """Refuse anything that is no whole number from 0 on; truths are no numbers."""
    if not isinstance(thing, int) or isinstance(thing, bool) or thing < 0:
        raise NoJob()
