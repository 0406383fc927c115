package sheet

import (
	"maps"
	"slices"

	"sccsettle/api"
	"sccsettle/eval"
	"sccsettle/graph"
	"sccsettle/settle"
)

// turn is what a Set has to go through: the parts of the sheet as it becomes, in their Order; the cell that is set, with those of the part that it was in; and the values of cells, as they were ahead of it and as they become.
type turn struct {
	plan       []graph.Part
	touched    []api.Cell
	ahead, now eval.Values
}

// turnTo readies the turn to a list in which a cell has another text. The sheet stays as it is.
func (s *Sheet) turnTo(next []api.Filled, c api.Cell) (turn, error) {
	mates, err := s.mates(c)
	if err != nil {
		return turn{}, err
	}
	plan, err := graph.Plan(next)
	if err != nil {
		return turn{}, err
	}
	ahead := eval.Values{}
	for at, shown := range s.shown {
		ahead[at] = shown.Value
	}
	return turn{plan: plan, touched: append(mates, c), ahead: ahead, now: maps.Clone(ahead)}, nil
}

// mates are the cells that belong to one circle with a cell.
func (s *Sheet) mates(c api.Cell) ([]api.Cell, error) {
	// What is Plain is a part alone: most Sets are spared the parts of the sheet as it was.
	if s.shown.of(c).State == api.Plain {
		return nil, nil
	}
	parts, err := graph.Parts(s.list)
	if err != nil {
		return nil, err
	}
	for _, p := range parts {
		if slices.Contains(p, c) {
			return p, nil
		}
	}
	return nil, nil
}

// workOut goes through the parts that the turn asks for.
func (s *Sheet) workOut(t turn) {
	for _, p := range t.plan {
		if !t.asks(p) {
			continue
		}
		shown, count := settle.Part(p, t.now)
		for _, of := range shown {
			s.shown[of.Cell] = of
			t.now[of.Cell] = of.Value
		}
		s.work += count
	}
}

// asks tells whether a part has to be worked out anew. All that it hangs on outside of it is done by then, and none of its own cells is.
func (t turn) asks(p graph.Part) bool {
	for _, m := range p.Members {
		if slices.Contains(t.touched, m.Cell) || slices.ContainsFunc(m.Looks, t.other) {
			return true
		}
	}
	return false
}

// other is a cell that has another value than it had.
func (t turn) other(c api.Cell) bool { return t.now[c] != t.ahead[c] }
