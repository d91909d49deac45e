"""The answers that README.md tells are those of the program."""

import pathlib
import re
import unittest

README = pathlib.Path(__file__).resolve().parent.parent / "README.md"
PACKAGE = README.parent / "nearorders"


class Readme(unittest.TestCase):
    def test_each_line_tells_what_it_says(self):
        names, looked_at = {}, 0
        for line in "".join(re.findall("```python\n(.*?)```", README.read_text(), re.DOTALL)).split("\n"):
            asked, sign, answer = line.partition("# ")
            name, assigned, value = asked.partition(" = ")
            if not sign:
                exec(asked, names)
                continue
            told = eval(value if assigned else asked, names)
            if assigned:
                names[name] = told
            self.assertEqual(told, eval(answer), line)
            looked_at += 1
        self.assertGreater(looked_at, 40)

    def test_it_names_each_module_and_how_to_run_the_tests(self):
        text = README.read_text()
        for path in PACKAGE.glob("[a-z]*.py"):
            self.assertIn(f"`nearorders.{path.stem}`", text)
        self.assertIn("bash .ci/run", text)


if __name__ == "__main__":
    unittest.main()
