"""What README.md shows: each line of its Python blocks with a remark answers what the remark says."""

import pathlib
import re
import unittest

README = pathlib.Path(__file__).resolve().parent.parent / "README.md"


class Readme(unittest.TestCase):
    def test_its_lines_answer_what_stands_beside_them(self):
        known = {}
        shown = 0
        for block in re.findall(r"```python\n(.*?)```", README.read_text("utf-8"), re.DOTALL):
            for line in filter(None, block.splitlines()):
                asked, mark, remark = line.partition("  # ")
                # A remark in plain words shows no answer.
                if mark and not re.match("[a-z]", remark):
                    shown += 1
                    answer = repr(eval(asked, known)).replace("'", '"')
                    self.assertTrue(remark.startswith(answer), (line, answer))
                else:
                    exec(asked, known)
        self.assertGreater(shown, 30)
