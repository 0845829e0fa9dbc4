"""What the tests of several modules need."""

from chairclans import errors

REFUSALS = (
    errors.NoRatio, errors.NoText, errors.NoSpell, errors.NoRow, errors.NoBounds, errors.NoDistance, errors.NoClan,
    errors.TooLong, errors.NoRule, errors.NoLine, errors.NoNumber, errors.NoName, errors.Known, errors.TooMany,
)


def assert_refused(test, wanted, call, *handed):
    """The call is refused with the wanted class, and with none of the others."""
    with test.assertRaises(ValueError) as caught:
        call(*handed)
    test.assertIsInstance(caught.exception, errors.ClanError)
    test.assertEqual([kind for kind in REFUSALS if isinstance(caught.exception, kind)], [wanted])


def assert_whole(test, value):
    test.assertIs(type(value), int)


def assert_same(test, told, wanted):
    """For long answers: unittest's own comparison takes very long to show where two of them differ."""
    test.assertTrue(told == wanted, f"told {told}, wanted {wanted}")


def number_of(chance, figures):
    """A whole number above 0 with just so many figures."""
    return chance.randrange(10 ** (figures - 1), 10 ** figures)
