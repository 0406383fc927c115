package graph

import (
	"slices"

	"sccsettle/api"
)

// Member of a part: a cell of the sheet, the place at which it stands there, its formula, which is the zero node, if its text is none, and all cells that this looks at, as they stand, also those that are none of the sheet's.
type Member struct {
	api.Filled
	Place   int
	Formula api.Node
	Looks   []api.Cell
}

// Part of a sheet, with all that is needed to work it out but values: its cells as they stand, and whether they go round.
type Part struct {
	Members  []Member
	Circular bool
}

// Plan has the parts of a sheet in their Order.
func Plan(l []api.Filled) ([]Part, error) {
	s, err := sheetOf(l)
	if err != nil {
		return nil, err
	}
	w := s.web()
	parts := partsOf(w.closed())
	plan := make([]Part, len(parts))
	for i, number := range numbered(parts) {
		places := parts[i].places
		plan[number].Circular = w.circular(places)
		for place := range places.each {
			n := s.nodes[l[place].Cell]
			m := Member{Filled: l[place], Place: place, Formula: n.formula, Looks: n.looks}
			plan[number].Members = append(plan[number].Members, m)
		}
	}
	return plan, nil
}

// circular is a part of which one place hangs on one of it.
func (w web) circular(places set) bool {
	return !w.lookers(places).common(places).empty()
}

// Needed are the parts of a plan that a cell comes to hang on, and the one that it is in, in their Order. The cell need be none of the sheet's.
func Needed(plan []Part, c api.Cell) []Part {
	needed := map[api.Cell]struct{}{c: {}}
	isNeeded := func(m Member) bool {
		_, is := needed[m.Cell]
		return is
	}
	var parts []Part
	// From the end on: whoever hangs on a part stands behind it.
	for _, p := range slices.Backward(plan) {
		if !slices.ContainsFunc(p.Members, isNeeded) {
			continue
		}
		parts = append(parts, p)
		for _, m := range p.Members {
			for _, on := range m.Looks {
				needed[on] = struct{}{}
			}
		}
	}
	slices.Reverse(parts)
	return parts
}
