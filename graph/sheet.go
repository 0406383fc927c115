package graph

import (
	"slices"

	"sccsettle/addr"
	"sccsettle/api"
	"sccsettle/formula"
	"sccsettle/refs"
)

// node of a sheet: the place at which its cell stands there, its formula, if it has one, and all cells that this looks at, also those that are none of the sheet's.
type node struct {
	place   int
	formula api.Node
	looks   []api.Cell
}

// sheet has its cells as they stand, and a node for each of them.
type sheet struct {
	cells []api.Cell
	nodes map[api.Cell]node
}

func sheetOf(l []api.Filled) (sheet, error) {
	parsed, err := Formulas(l)
	if err != nil {
		return sheet{}, err
	}
	s := sheet{nodes: map[api.Cell]node{}}
	for place, f := range l {
		n := node{place: place, formula: parsed[place]}
		if !formula.Constant(f.Text) {
			if n.looks, err = refs.Of(parsed[place]); err != nil {
				return sheet{}, err
			}
		}
		s.cells = append(s.cells, f.Cell)
		s.nodes[f.Cell] = n
	}
	return s, nil
}

// Formulas are those of the cells of a sheet, at their places; a cell without one has the zero node there. What is wrong with the sheet is told as Check tells it.
func Formulas(l []api.Filled) ([]api.Node, error) {
	if len(l) > api.MaxCells {
		return nil, api.ErrFull
	}
	parsed := make([]api.Node, len(l))
	for i, f := range l {
		if err := addr.Check(f.Cell); err != nil {
			return nil, err
		}
		if i > 0 && !addr.Less(l[i-1].Cell, f.Cell) {
			return nil, api.ErrOrder
		}
		n, err := formulaOf(f.Text)
		if err != nil {
			return nil, err
		}
		parsed[i] = n
	}
	return parsed, nil
}

// formulaOf reads the text of a cell; the zero node, if it has no formula.
func formulaOf(text string) (api.Node, error) {
	if text == "" {
		return api.Node{}, api.ErrShape
	}
	if len(text) > api.MaxText {
		return api.Node{}, api.ErrFull
	}
	if formula.Constant(text) {
		return api.Node{}, nil
	}
	n, _, err := formula.Parse(text)
	if err != nil {
		// Whatever Parse finds (too many levels, too): it is no formula, and a sheet's word for that is one.
		return api.Node{}, api.ErrSyntax
	}
	return n, nil
}

// web of a sheet leaves out what is none of its cells: that is blank, and hangs on nothing.
func (s sheet) web() web {
	w := make(web, len(s.cells))
	for place, c := range s.cells {
		for _, on := range s.nodes[c].looks {
			if n, is := s.nodes[on]; is {
				w[place].put(n.place)
			}
		}
	}
	return w
}

// lookers are the places that hang on a cell itself, by way of no other one. The cell need be none of the sheet's.
func (s sheet) lookers(c api.Cell) set {
	var lookers set
	for place, of := range s.cells {
		if slices.Contains(s.nodes[of].looks, c) {
			lookers.put(place)
		}
	}
	return lookers
}

func (s sheet) cellsAt(places set) []api.Cell {
	var cells []api.Cell
	for place := range places.each {
		cells = append(cells, s.cells[place])
	}
	return cells
}
