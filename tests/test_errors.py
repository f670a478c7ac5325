import unittest

from fallsback import errors
from fallsback.errors import (
    FallError, InvalidLine, InvalidMachine, InvalidNumber, InvalidOperation, InvalidProgram, InvalidRun,
    InvalidWord, Needed, NothingToUndo, ParseError, TooMany, UnknownName,
)
from tests.values import EVERY

WITH_MESSAGE = (FallError, InvalidWord, InvalidMachine, InvalidProgram, InvalidLine, InvalidOperation)
FALL_ERRORS = (InvalidWord, InvalidMachine, InvalidProgram, InvalidRun, InvalidLine, InvalidOperation, ParseError)
OTHER_BASES = (
    (InvalidNumber, IndexError), (UnknownName, KeyError), (TooMany, OverflowError),
    (NothingToUndo, LookupError), (Needed, ArithmeticError),
)
ALL = (FallError,) + FALL_ERRORS + tuple(pair[0] for pair in OTHER_BASES)
PYTHONS = (ValueError, IndexError, KeyError, LookupError, OverflowError, ArithmeticError, TypeError, RuntimeError)


class Bases(unittest.TestCase):
    def test_the_base_is_a_value_error_alone(self):
        self.assertEqual(FallError.__bases__, (ValueError,))

    def test_fall_errors_are_directly_derived_from_the_base(self):
        for error in FALL_ERRORS:
            self.assertEqual(error.__bases__, (FallError,), error)

    def test_the_others_have_one_base_of_python(self):
        for error, base in OTHER_BASES:
            self.assertEqual(error.__bases__, (base,), error)

    def test_no_error_is_one_of_another_kind(self):
        for error in ALL:
            for other in ALL:
                expected = error == other or (other == FallError and error in FALL_ERRORS)
                self.assertEqual(issubclass(error, other), expected, (error, other))

    def test_of_which_errors_of_python_each_one_is(self):
        expected = {
            InvalidNumber: (IndexError, LookupError), UnknownName: (KeyError, LookupError),
            TooMany: (OverflowError, ArithmeticError), NothingToUndo: (LookupError,), Needed: (ArithmeticError,),
        }
        for error in ALL:
            found = tuple(base for base in PYTHONS if issubclass(error, base))
            self.assertEqual(found, expected.get(error, (ValueError,)), error)

    def test_each_class_stands_in_its_file(self):
        for error in ALL:
            self.assertEqual(error.__module__, errors.__name__)


class Kept(unittest.TestCase):
    def test_messages(self):
        for error in WITH_MESSAGE:
            with self.assertRaises(error) as told:
                raise error("why not")
            self.assertEqual(str(told.exception), "why not")

    def test_index_of_invalid_run(self):
        for index in (0, 3, 10 ** 60 - 1):
            self.assertEqual(InvalidRun(index).index, index)
            self.assertEqual(InvalidRun(index=index).index, index)

    def test_line_of_parse_error(self):
        for line in (0, 7):
            self.assertEqual(ParseError(line).line, line)
            self.assertEqual(ParseError(line=line).line, line)

    def test_value_of_invalid_number(self):
        for value in EVERY:
            self.assertIs(InvalidNumber(value).value, value)
        self.assertEqual(InvalidNumber(value=7).value, 7)

    def test_name_of_unknown_name(self):
        for name in EVERY:
            self.assertIs(UnknownName(name).name, name)
        self.assertEqual(UnknownName(name="q").name, "q")

    def test_limit_of_too_many(self):
        self.assertEqual(TooMany(2000).limit, 2000)
        self.assertEqual(TooMany(limit=6).limit, 6)

    def test_many_of_nothing_to_undo(self):
        self.assertEqual(NothingToUndo(2).many, 2)
        self.assertEqual(NothingToUndo(many=9).many, 9)

    def test_place_of_needed(self):
        self.assertEqual(Needed(0).place, 0)
        self.assertEqual(Needed(place=4).place, 4)

    def test_texts_of_invalid_number_and_unknown_name(self):
        for value in EVERY:
            self.assertEqual(str(InvalidNumber(value)), repr(value))
            self.assertEqual(str(UnknownName(value)), repr(value))
        self.assertEqual(str(InvalidNumber(-1)), "-1")
        self.assertEqual(str(InvalidNumber((1, 2))), "(1, 2)")
        self.assertEqual(str(UnknownName("x")), "'x'")
        self.assertEqual(str(InvalidNumber(value="x")), "'x'")
        self.assertEqual(str(UnknownName(name="x")), "'x'")

    def test_raised_errors_keep_what_they_keep(self):
        with self.assertRaises(IndexError) as told:
            raise InvalidNumber([1])
        self.assertEqual((told.exception.value, str(told.exception)), ([1], "[1]"))
        with self.assertRaises(KeyError) as told:
            raise UnknownName(None)
        self.assertEqual((told.exception.name, str(told.exception)), (None, "None"))

    def test_each_argument_is_needed(self):
        for error in (InvalidRun, ParseError) + tuple(pair[0] for pair in OTHER_BASES):
            self.assertRaises(TypeError, error)


if __name__ == "__main__":
    unittest.main()
