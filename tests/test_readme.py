import doctest
import io
import pathlib
import unittest

README = pathlib.Path(__file__).resolve().parent.parent / "README.md"


class ReadmeTest(unittest.TestCase):
    def test_examples(self):
        # Without its fences, which would be taken for results.
        text = README.read_text(encoding="ascii").replace("```", "")
        examples = doctest.DocTestParser().get_doctest(text, {}, "README.md", "README.md", 0)
        told = io.StringIO()
        found = doctest.DocTestRunner().run(examples, out=told.write)
        self.assertGreater(found.attempted, 15)
        self.assertEqual(found.failed, 0, told.getvalue())


if __name__ == "__main__":
    unittest.main()
