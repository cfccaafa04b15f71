import inspect
import unittest

from keptbowls import errors

VALUED = """InvalidBowl(value), InvalidForm(value), InvalidLot(value), InvalidMakers(position), InvalidMany(value),
InvalidMember(value), InvalidModulus(value), InvalidNumber(value), InvalidRow(value), InvalidTable(value),
InvalidWord(value), InvalidBasis(value), InvalidClaim(value), InvalidCommand(value), InvalidDegree(value),
InvalidEquations(value), InvalidKind(value), InvalidLines(position), InvalidMembers(position), InvalidPaper(value),
InvalidPlace(value), InvalidPoly(value), InvalidPosition(value), InvalidRows(value), InvalidSize(value),
InvalidSort(value), InvalidText(line), InvalidThing(value)"""
MISSING = "UnknownLabel(value), UnknownName(value)"
STATE = """UnlikeSizes(), Endless(), CommandFailed(position), LabelTaken(label), NameTaken(name), NotKept(), NotPlane(),
NotUndone(), NotWithin(), NothingToRedo(), NothingToUndo(), TooWide(), WrongThing(name)"""
LIMIT = "TooMany(what; limit)"

FAMILIES = [("BowlError", ValueError, VALUED), ("MissingError", LookupError, MISSING),
            ("StateError", RuntimeError, STATE), ("LimitError", ArithmeticError, LIMIT)]


def listed(text):
    for part in text.replace("\n", " ").split(", "):
        name, _, rest = part.strip().partition("(")
        yield name, [word.strip() for word in rest.rstrip(")").split(";") if word.strip()]


class Errors(unittest.TestCase):
    def test_families(self):
        for family, python_error, _ in FAMILIES:
            self.assertEqual(getattr(errors, family).__bases__, (python_error,))

    def test_each_is_a_direct_subclass_of_its_family_alone(self):
        for family, _, text in FAMILIES:
            for name, _ in listed(text):
                with self.subTest(name=name):
                    made = getattr(errors, name)
                    self.assertEqual(made.__bases__, (getattr(errors, family),))
                    self.assertEqual(made.__module__, "keptbowls.errors")

    def test_constructors_and_attributes(self):
        for _, _, text in FAMILIES:
            for name, parameters in listed(text):
                with self.subTest(name=name):
                    made = getattr(errors, name)
                    values = [object() for _ in parameters]
                    for told in (made(*values), made(**dict(zip(parameters, values)))):
                        for parameter, value in zip(parameters, values):
                            self.assertIs(getattr(told, parameter), value)
                    if parameters:
                        self.assertEqual(list(inspect.signature(made).parameters), parameters)
                        self.assertRaises(TypeError, made)

    def test_any_values(self):
        for value in (None, True, [], [[1]], {}, "x", 10 ** 40, object()):
            self.assertIs(errors.InvalidBowl(value).value, value)
            self.assertIs(errors.InvalidMakers(value).position, value)
            self.assertIs(errors.TooMany(value, "b").what, value)
            self.assertIs(errors.TooMany("a", value).limit, value)

    def test_there_are_as_many_as_listed(self):
        told = [name for name, value in vars(errors).items() if inspect.isclass(value)]
        wanted = [family for family, _, _ in FAMILIES] + [name for _, _, text in FAMILIES for name, _ in listed(text)]
        self.assertEqual(sorted(told), sorted(wanted))
        self.assertEqual(len(wanted), 4 + 28 + 2 + 13 + 1)
