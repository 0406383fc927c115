package rows

import (
	"sccsettle/addr"
	"sccsettle/api"
	"sccsettle/formula"
	"sccsettle/graph"
	"sccsettle/refs"
)

// gone is where the line of a cell goes that is none of the sheet's any more: no line has that number.
const gone = 0

// change is where a line (a row, or a column) goes, and what becomes of a formula then. Lines that stay keep their order, so that cells stand behind a change as they did ahead of it.
type change struct {
	line func(line int) int
	node func(n api.Node) (api.Node, error)
}

// changed asks for at and many by themselves: a sheet without formulas has no other one to refuse them.
func changed(l []api.Filled, row bool, at, many int, c change) ([]api.Filled, error) {
	formulas, err := graph.Formulas(l)
	if err != nil {
		return nil, err
	}
	if err := refs.CheckLines(row, at, many); err != nil {
		return nil, err
	}
	var next []api.Filled
	for i, f := range l {
		line := c.line(lineOf(f.Cell, row))
		// What is gone has no text that could be too long.
		if line == gone {
			continue
		}
		f.Cell = inLine(f.Cell, row, line)
		if addr.Check(f.Cell) != nil {
			return nil, api.ErrFull
		}
		if f.Text, err = formula.Rewrite(f.Text, formulas[i], c.node); err != nil {
			return nil, err
		}
		next = append(next, f)
	}
	return next, nil
}

// lineOf is the number of the row, or of the column, that a cell stands in.
func lineOf(c api.Cell, row bool) int {
	if row {
		return c.Row
	}
	return c.Col
}

// inLine is the cell that stands likewise in another row, or column.
func inLine(c api.Cell, row bool, line int) api.Cell {
	if row {
		c.Row = line
	} else {
		c.Col = line
	}
	return c
}

// isLine tells whether there is a row, or a column, of that number.
func isLine(row bool, line int) bool {
	return addr.Check(inLine(api.Cell{Col: 1, Row: 1}, row, line)) == nil
}
