from stubbornest import errors
from tests.cases import Case

FAMILIES = ("PaperError", "UseError", "LiveError", "TextError")
FIELDS = {
    "InvalidPaper": ("PaperError", ("word", "at")),
    "NotUsable": ("UseError", ("word", "at")),
    "Apart": ("UseError", ("least", "most")),
    "InvalidEvent": ("LiveError", ("event", "reason")),
    "NothingToUndo": ("LiveError", ("steps",)),
    "InvalidText": ("TextError", ("line", "field")),
    "InvalidRow": ("TextError", ("row",)),
}


class Errors(Case):
    def test_families(self):
        self.assertEqual(errors.BenchError.__bases__, (ValueError,))
        for name in FAMILIES:
            self.assertEqual(getattr(errors, name).__bases__, (errors.BenchError,))
        for name, (family, _) in FIELDS.items():
            self.assertEqual(getattr(errors, name).__bases__, (getattr(errors, family),))

    def test_fields_are_the_very_objects(self):
        for name, (_, fields) in FIELDS.items():
            kind = getattr(errors, name)
            values = [[field] for field in fields]
            for error in (kind(*values), kind(**dict(zip(fields, values)))):
                self.assertEqual(tuple(vars(error)), fields)
                for field, value in zip(fields, values):
                    self.assertIs(getattr(error, field), value)

    def test_exactly_the_fields(self):
        for name, (_, fields) in FIELDS.items():
            kind = getattr(errors, name)
            with self.assertRaises(TypeError):
                kind(*fields, 0)
            with self.assertRaises(TypeError):
                kind(*fields[1:])

    def test_any_values(self):
        for value in (None, True, -1, "", [], ([],), 10 ** 60):
            for name, (_, fields) in FIELDS.items():
                error = getattr(errors, name)(*[value for _ in fields])
                for field in fields:
                    self.assertIs(getattr(error, field), value)
                with self.assertRaises(ValueError):
                    raise error
