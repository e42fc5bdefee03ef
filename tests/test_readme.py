"""The examples in README.md."""

import builtins
import doctest
import os
import unittest

README = os.path.join(os.path.dirname(os.path.dirname(os.path.abspath(__file__))), "README.md")


class ReadmeTest(unittest.TestCase):
    def test_examples(self):
        with open(README, encoding="utf-8") as source:
            text = "".join(line for line in source if not line.startswith("```"))
        examples = doctest.DocTestParser().get_doctest(text, {}, "README.md", README, 0)
        told = []
        found = doctest.DocTestRunner(verbose=False).run(examples, out=told.append)
        # The examples leave their last value there.
        vars(builtins).pop("_", None)
        self.assertEqual(found.failed, 0, "".join(told))
        self.assertGreater(found.attempted, 30)


if __name__ == "__main__":
    unittest.main()
