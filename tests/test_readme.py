"""The examples of README.md give what stands there."""

import doctest
import unittest
from pathlib import Path

README = Path(__file__).resolve().parent.parent / "README.md"


class Readme(unittest.TestCase):
    def test_examples(self):
        # Without the fences, which doctest would take for a part of the answers.
        text = README.read_text(encoding="utf-8").replace("```", "")
        examples = doctest.DocTestParser().get_doctest(text, {}, "README.md", None, 0)
        self.assertGreater(len(examples.examples), 20)
        report = []
        result = doctest.DocTestRunner(verbose=False).run(examples, out=report.append)
        self.assertEqual(result.failed, 0, "".join(report))


if __name__ == "__main__":
    unittest.main()
