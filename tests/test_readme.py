"""What README.md shows is what the program answers."""

import re
import unittest
from pathlib import Path

README = Path(__file__).resolve().parent.parent / "README.md"


class ReadmeTest(unittest.TestCase):
    def test_each_line_with_an_answer(self):
        known = {}
        shown = 0
        for block in re.findall(r"```python\n(.*?)```", README.read_text(encoding="utf-8"), re.DOTALL):
            exec(block, known)
            if "Desk()" in block:
                exec("desk = Desk()", known)
            for line in block.splitlines():
                match = re.fullmatch(r"([a-z_.]+\(.*?\)(?:\.[a-z]+(?:\(.*\))?)?) +# (.*)", line)
                if match:
                    with self.subTest(line=line):
                        self.assertEqual(eval(match[1], known), eval(re.sub(r": .*", "", match[2])))
                    shown += 1
        self.assertGreater(shown, 35)


if __name__ == "__main__":
    unittest.main()
