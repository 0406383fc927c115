package graph

import "sccsettle/api"

// Member of a part: a cell of the sheet, the place at which it stands there, its formula, which is the zero node, if its text is none, and all cells that this looks at, as they stand, also those that are none of the sheet's.
type Member struct {
	api.Filled
	Place   int
	Formula api.Node
	Looks   []api.Cell
}

// Part of a sheet, with all that is needed to work it out but values: its cells as they stand, and whether they go round.
type Part struct {
	Members  []Member
	Circular bool
}

// Plan has the parts of a sheet in their Order.
func Plan(l []api.Filled) ([]Part, error) {
	s, err := sheetOf(l)
	if err != nil {
		return nil, err
	}
	w := s.web()
	parts := partsOf(w.closed())
	plan := make([]Part, len(parts))
	for i, number := range numbered(parts) {
		places := parts[i].places
		plan[number].Circular = w.circular(places)
		for place := range places.each {
			n := s.nodes[l[place].Cell]
			m := Member{Filled: l[place], Place: place, Formula: n.formula, Looks: n.looks}
			plan[number].Members = append(plan[number].Members, m)
		}
	}
	return plan, nil
}

// circular is a part of which one place hangs on one of it.
func (w web) circular(places set) bool {
	return !w.lookers(places).common(places).empty()
}
