"""The names and arguments of the document's interface."""

import importlib
import inspect
import unittest

INTERFACE = {
    "rows": ["is_number(thing)", "is_name(thing)", "is_row(row)", "class_of(key)", "uses(row)", "makes(row)", "risky(row)"],
    "programs": ["program_of(rows)", "shape(program)"],
    "texts": ["written(program)", "read(text)"],
    "values": ["fit(number)", "reckoned(one, word, other)"],
    "runs": ["run(program, inputs, most=200)"],
    "makers": ["makers(program)", "closed(program, table)", "holds(table, home, name)", "keeps(table, rows, kind)"],
    "comes": ["nexts(program, row)", "comes_to(program, row, name)"],
    "net": ["ties(program, row, strict=False)", "net_of(program, strict=False)"],
    "slices": ["back(net, rows)", "forth(net, rows)", "between(net, ones, others)", "way(net, row, other)",
               "slice_of(program, rows, strict=False)"],
    "papers": ["paper(program, table, rows, row)", "checked(program, table, rows, row, told)"],
    "only": ["only(program, rows)", "kept(doings, rows)"],
    "links": ["linked(program, inputs, most=200)", "run_slice(links, index)", "chain(links, index, other)"],
    "pokes": ["poked(program, inputs, index, number, most=200)", "came_of(doings, others, some)"],
    "reach": ["changed(old, new)", "reach(old, new, strict=False)"],
    "fewest": ["fewest(parts, ending, wanted)", "fewest_rows(program, inputs, word, most=200)",
               "fewest_inputs(program, inputs, word, most=200)"],
    "whynot": ["why_not(program, doings, row)", "doers(program, row, some, most=200)"],
}


class Interface(unittest.TestCase):
    def test_each_name_with_its_arguments(self):
        for module, lines in INTERFACE.items():
            found = importlib.import_module("slicewise." + module)
            for line in lines:
                name = line.partition("(")[0]
                self.assertEqual(name + str(inspect.signature(getattr(found, name))), line, module)


if __name__ == "__main__":
    unittest.main()
