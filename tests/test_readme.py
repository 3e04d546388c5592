"""The code that README.md shows can be run as it stands, from the first line to the last."""

import re
import unittest
from pathlib import Path

README = Path(__file__).resolve().parent.parent / "README.md"


class ReadmeTest(unittest.TestCase):
    def test_all_code(self):
        code = "\n".join(re.findall(r"```python\n(.*?)```", README.read_text(), re.DOTALL))
        names = {}
        exec(compile(code, "README.md", "exec"), names)
        self.assertEqual(names["desk"].say("total"), "2")
        self.assertIs(names["rules"].keeps(names["desk"].database), True)

    def test_all_modules_are_told(self):
        told = README.read_text()
        for path in sorted((README.parent / "onlylooks").glob("*.py")):
            if path.name != "__init__.py":
                self.assertRegex(told, rf"`(onlylooks\.)?{path.stem}`")
