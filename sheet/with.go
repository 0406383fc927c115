package sheet

import (
	"slices"

	"sccsettle/addr"
	"sccsettle/api"
	"sccsettle/graph"
)

// with is a list in which a cell has a text; if that is empty, one without the cell. The list that is handed in stays as it is, so that a Set that is refused has changed nothing.
func with(l []api.Filled, c api.Cell, text string) ([]api.Filled, error) {
	if err := check(c, text); err != nil {
		return nil, err
	}
	place, is := slices.BinarySearchFunc(l, c, func(f api.Filled, c api.Cell) int {
		return asTheyStand(f.Cell, c)
	})
	next := slices.Clone(l)
	if is {
		next = slices.Delete(next, place, place+1)
	}
	if text != "" {
		next = slices.Insert(next, place, api.Filled{Cell: c, Text: text})
	}
	if len(next) > api.MaxCells {
		return nil, api.ErrFull
	}
	return next, nil
}

// check tells what is wrong with a cell and its text, whatever else the sheet has.
func check(c api.Cell, text string) error {
	if text == "" {
		return addr.Check(c)
	}
	return graph.Check([]api.Filled{{Cell: c, Text: text}})
}

// asTheyStand is below 0, if a cell stands ahead of another one, and 0, if they are one.
func asTheyStand(a, b api.Cell) int {
	switch {
	case addr.Less(a, b):
		return -1
	case addr.Less(b, a):
		return 1
	}
	return 0
}
