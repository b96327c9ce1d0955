"""[0.4]: the classes of errors.py and what they keep."""

from mergerates import errors
from tests.case import ATTRIBUTES, Case


class Errors(Case):
    def test_all_derive_from_merge_error_directly(self):
        self.assertEqual(errors.MergeError.__bases__, (ValueError,))
        for kind in [*ATTRIBUTES, errors.NothingToUndo]:
            with self.subTest(kind.__name__):
                self.assertEqual(kind.__bases__, (errors.MergeError,))
                self.assertEqual(kind.__module__, "mergerates.errors")

    def test_errors_holds_no_other_class(self):
        names = {name for name, value in vars(errors).items() if isinstance(value, type)}
        self.assertEqual(names, {kind.__name__ for kind in ATTRIBUTES} | {"MergeError", "NothingToUndo"})

    def test_one_argument_is_kept(self):
        for kind, attribute in ATTRIBUTES.items():
            for told in ("n", -1, 6, (0, 0, 1)):
                with self.subTest(kind.__name__, told=told):
                    self.assertEqual(getattr(kind(told), attribute), told)
                    self.assertEqual(getattr(kind(**{attribute: told}), attribute), told)

    def test_one_argument_is_needed(self):
        for kind in ATTRIBUTES:
            self.assertRaises(TypeError, kind)

    def test_nothing_to_undo_has_no_argument(self):
        self.assertIsInstance(errors.NothingToUndo(), errors.MergeError)

    def test_none_is_of_another_ones_kind(self):
        for kind in ATTRIBUTES:
            for other in [*ATTRIBUTES, errors.NothingToUndo]:
                self.assertEqual(issubclass(kind, other), kind is other)
