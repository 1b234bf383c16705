"""What the tests of refusals share."""

from timestretch import errors

REFUSALS = (
    errors.BadName,
    errors.BadLetter,
    errors.BadOff,
    errors.TooEarly,
    errors.BadCount,
    errors.NoAgreement,
    errors.TooWide,
    errors.TooMany,
    errors.NoClock,
    errors.NoText,
)


def refused(test, kind, action, *given):
    """Fail the test unless the action is refused with just this kind of error."""
    for wider in (kind, errors.StretchError, ValueError):
        with test.assertRaises(wider) as caught:
            action(*given)
        test.assertIs(type(caught.exception), kind)
