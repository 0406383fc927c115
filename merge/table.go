package merge

import (
	"maps"
	"slices"

	"sccsettle/addr"
	"sccsettle/api"
	"sccsettle/graph"
)

// most sheets that are held against each other: a base, and what two made of it.
const most = 3

// texts of one cell, sheet by sheet; empty in those that do not have it.
type texts struct{ of [most]string }

// table has the texts of all cells that one of some sheets has.
type table map[api.Cell]texts

// lay lays sheets side by side, at most so many. The first one that is none is told.
func lay(sheets ...[]api.Filled) (table, error) {
	t := table{}
	for i, l := range sheets {
		if err := graph.Check(l); err != nil {
			return nil, err
		}
		for _, f := range l {
			row := t[f.Cell]
			row.of[i] = f.Text
			t[f.Cell] = row
		}
	}
	return t, nil
}

// cells of the table, as they stand.
func (t table) cells() []api.Cell {
	return slices.SortedFunc(maps.Keys(t), addr.Compare)
}

// both is the text that a cell comes to have of what two made of a base, and whether they made two things of it.
func (t texts) both() (text string, clash bool) {
	base, a, b := t.of[0], t.of[1], t.of[2]
	switch {
	case a == base:
		return b, false
	case b == base || b == a:
		return a, false
	}
	return a, true
}
