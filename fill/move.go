package fill

import (
	"sccsettle/addr"
	"sccsettle/api"
)

// move is some cells, and how far what stands in them goes.
type move struct {
	cells      []api.Cell
	cols, rows int
}

// moveOf brings the upper left corner of a box to a cell.
func moveOf(from api.Box, to api.Cell) (move, error) {
	cells, err := addr.Cells(from)
	if err != nil {
		return move{}, err
	}
	// Asked ahead of the differences, which could wrap round else.
	if err := addr.Check(to); err != nil {
		return move{}, err
	}
	m := move{cells: cells, cols: to.Col - from.From.Col, rows: to.Row - from.From.Row}
	// The other corner goes furthest: if it comes to be a cell, so do all.
	if err := addr.Check(m.to(from.To)); err != nil {
		return move{}, err
	}
	return m, nil
}

func (m move) to(c api.Cell) api.Cell {
	return api.Cell{Col: c.Col + m.cols, Row: c.Row + m.rows}
}
