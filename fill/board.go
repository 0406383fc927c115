package fill

import (
	"slices"

	"sccsettle/addr"
	"sccsettle/api"
	"sccsettle/formula"
	"sccsettle/graph"
)

// piece is what stands in a cell: a text, its formula, if it has one, and how far it came from where it stood.
type piece struct {
	text       string
	formula    api.Node
	cols, rows int
}

// board has the pieces of a sheet by their cells; a cell that is not there is blank.
type board map[api.Cell]piece

// boardOf tells what is wrong with a sheet as Check of chapter 6 does.
func boardOf(l []api.Filled) (board, error) {
	formulas, err := graph.Formulas(l)
	if err != nil {
		return nil, err
	}
	b := board{}
	for i, f := range l {
		b[f.Cell] = piece{text: f.Text, formula: formulas[i]}
	}
	return b, nil
}

func (b board) blank(cells []api.Cell) {
	for _, c := range cells {
		delete(b, c)
	}
}

// lay writes what stands in cells, blank ones too, as far away as they go. Only the old board is looked at, so that nothing is taken that was just written.
func (b board) lay(old board, m move) {
	for _, c := range m.cells {
		to := m.to(c)
		p, filled := old[c]
		if !filled {
			delete(b, to)
			continue
		}
		p.cols, p.rows = m.cols, m.rows
		b[to] = p
	}
}

// list is the sheet, each formula as change makes it of what came so many columns and rows. Only what stands there at last may be too much, or too long.
func (b board) list(change func(n api.Node, cols, rows int) (api.Node, error)) ([]api.Filled, error) {
	if len(b) > api.MaxCells {
		return nil, api.ErrFull
	}
	var l []api.Filled
	for _, c := range b.cells() {
		p := b[c]
		text, err := formula.Rewrite(p.text, p.formula, func(n api.Node) (api.Node, error) {
			return change(n, p.cols, p.rows)
		})
		if err != nil {
			return nil, err
		}
		l = append(l, api.Filled{Cell: c, Text: text})
	}
	return l, nil
}

// cells are those of the board that are not blank, as they stand.
func (b board) cells() []api.Cell {
	var cells []api.Cell
	for c := range b {
		cells = append(cells, c)
	}
	slices.SortFunc(cells, addr.Compare)
	return cells
}
