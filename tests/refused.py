"""How the tests ask for a refusal."""

from onlybuilt import errors
from tests.test_errors import PLAIN, WITH_AT, WITH_ROAD


def refused(case, name, asked, *handed):
    """The refusal that asking ends with: of the class of that name, the bases' and no other one."""
    refusal = getattr(errors, name)
    for taken_by in (refusal, errors.OnlyError, ValueError):
        with case.assertRaises(taken_by) as caught:
            asked(*handed)
    for other in PLAIN + WITH_AT + WITH_ROAD:
        taken = isinstance(caught.exception, getattr(errors, other))
        case.assertEqual(taken, other == name)
    return caught.exception
