package csv

import (
	"sccsettle/api"
	"sccsettle/graph"
)

// Sheet makes cells of rows.
func Sheet(rows [][]string) ([]api.Filled, error) {
	l := filled(rows)
	// What fills no cell is checked by its place at last, since a sheet's own errors are named ahead of that one.
	if err := graph.Check(l); err != nil {
		return nil, err
	}
	if len(rows) > api.MaxRow {
		return nil, api.ErrRange
	}
	for _, row := range rows {
		if len(row) > api.MaxCol {
			return nil, api.ErrRange
		}
	}
	return l, nil
}

// filled are the fields that are not empty, also where there is no cell for them. It ends with the first one that is more than a sheet may have.
func filled(rows [][]string) []api.Filled {
	var l []api.Filled
	for row := range len(rows) {
		for col := range len(rows[row]) {
			text := rows[row][col]
			if text == "" {
				continue
			}
			l = append(l, api.Filled{Cell: api.Cell{Col: col + 1, Row: row + 1}, Text: text})
			if len(l) > api.MaxCells {
				return l
			}
		}
	}
	return l
}

// Rows makes rows of cells.
func Rows(l []api.Filled) ([][]string, error) {
	if err := graph.Check(l); err != nil {
		return nil, err
	}
	var last api.Cell
	for _, f := range l {
		last.Col = max(last.Col, f.Cell.Col)
		last.Row = max(last.Row, f.Cell.Row)
	}
	var rows [][]string
	for range last.Row {
		rows = append(rows, make([]string, last.Col))
	}
	for _, f := range l {
		rows[f.Cell.Row-1][f.Cell.Col-1] = f.Text
	}
	return rows, nil
}
