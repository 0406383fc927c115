package refs

import (
	"sccsettle/addr"
	"sccsettle/api"
)

// change is what becomes of a ref, and of the two corners of a box; false, if there is no cell any more.
type change struct {
	ref func(r api.Ref) (api.Ref, bool)
	box func(a, b api.Ref) (api.Ref, api.Ref, bool)
}

// changed makes a node anew, so that it shares no memory with the one that was given.
func changed(n api.Node, c change) api.Node {
	ok := true
	switch n.Kind {
	case api.NodeRef:
		n.Ref, ok = c.ref(n.Ref)
	case api.NodeBox:
		n.Ref, n.To, ok = c.box(n.Ref, n.To)
	}
	if !ok {
		return api.Node{Kind: api.NodeBad, Num: api.BadRef}
	}
	var kids []api.Node
	for _, kid := range n.Kids {
		kids = append(kids, changed(kid, c))
	}
	n.Kids = kids
	return n
}

// cornerwise changes each corner of a box as the ref that it is.
func cornerwise(ref func(r api.Ref) (api.Ref, bool)) change {
	return change{
		ref: ref,
		box: func(a, b api.Ref) (api.Ref, api.Ref, bool) {
			a, okA := ref(a)
			b, okB := ref(b)
			return a, b, okA && okB
		},
	}
}

// carriage moves what lies in a box; a box that lies there only in part stays whole.
func carriage(from api.Box, cols, rows int) change {
	follow := cornerwise(func(r api.Ref) (api.Ref, bool) { return carry(r, cols, rows) })
	return change{
		ref: func(r api.Ref) (api.Ref, bool) {
			if !addr.Within(r.Cell, from) {
				return r, true
			}
			return follow.ref(r)
		},
		box: func(a, b api.Ref) (api.Ref, api.Ref, bool) {
			if !addr.Within(a.Cell, from) || !addr.Within(b.Cell, from) {
				return a, b, true
			}
			return follow.box(a, b)
		},
	}
}

// carry moves a ref whether it is fixed or not. A sum that wraps round lands below 0, on no cell.
func carry(r api.Ref, cols, rows int) (api.Ref, bool) {
	r.Cell.Col += cols
	r.Cell.Row += rows
	return r, addr.Check(r.Cell) == nil
}
