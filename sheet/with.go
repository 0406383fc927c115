package sheet

import (
	"slices"

	"sccsettle/addr"
	"sccsettle/api"
	"sccsettle/graph"
)

// Check tells what is wrong with a text that a cell is to have, whatever else the sheet has; it may be empty.
func Check(c api.Cell, text string) error {
	if text == "" {
		return addr.Check(c)
	}
	return graph.Check([]api.Filled{{Cell: c, Text: text}})
}

// With is a sheet in which some cells have other texts; those with an empty one are none of it. Both lists have their cells as they stand. The sheet that is handed in stays as it is, so that nothing is changed as long as it may be refused still: whether there are too many cells then is the caller's to ask.
func With(l, over []api.Filled) []api.Filled {
	next := make([]api.Filled, 0, len(l)+len(over))
	for _, f := range over {
		for len(l) > 0 && addr.Less(l[0].Cell, f.Cell) {
			next = append(next, l[0])
			l = l[1:]
		}
		if len(l) > 0 && l[0].Cell == f.Cell {
			l = l[1:]
		}
		if f.Text != "" {
			next = append(next, f)
		}
	}
	return append(next, l...)
}

// Text is that of a cell of a sheet; empty, if it is none of it.
func Text(l []api.Filled, c api.Cell) string {
	place, is := slices.BinarySearchFunc(l, c, func(f api.Filled, c api.Cell) int {
		return addr.Compare(f.Cell, c)
	})
	if !is {
		return ""
	}
	return l[place].Text
}
