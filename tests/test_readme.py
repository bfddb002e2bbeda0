"""The examples of README.md."""

import doctest
import pathlib
import re
import unittest

README = pathlib.Path(__file__).resolve().parent.parent / "README.md"


class ReadmeTest(unittest.TestCase):
    def test_the_examples(self):
        blocks = re.findall(r"```\n(>>>.*?)```", README.read_text(), re.DOTALL)
        self.assertGreater(len(blocks), 8)
        examples = doctest.DocTestParser().get_doctest("\n".join(blocks), {}, "README.md", str(README), 0)
        told = []
        runner = doctest.DocTestRunner(verbose=False, optionflags=doctest.IGNORE_EXCEPTION_DETAIL)
        result = runner.run(examples, out=told.append)
        self.assertEqual(result.failed, 0, "".join(told))


if __name__ == "__main__":
    unittest.main()
