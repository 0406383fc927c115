package formula

import (
	"sccsettle/addr"
	"sccsettle/api"
)

// Bounds of the letters of a name.
const (
	minName = 2
	maxName = 10
)

// countNodes stops as soon as there are more than most: those that stand at many places may be far too many to be counted.
func countNodes(n api.Node, most int) int {
	count := 1
	for _, kid := range n.Kids {
		if count > most {
			break
		}
		count += countNodes(kid, most-count)
	}
	return count
}

// isExpression tells whether a node can stand by itself, or as an operand: a box cannot.
func isExpression(n api.Node) bool { return n.Kind != api.NodeBox && isNode(n) }

func isNode(n api.Node) bool {
	if !fits(n) || hasMore(n) {
		return false
	}
	for _, kid := range n.Kids {
		if kid.Kind == api.NodeBox && n.Kind != api.NodeCall || !isNode(kid) {
			return false
		}
	}
	return true
}

// fits tells whether what a node says, apart from its kids, can be written.
func fits(n api.Node) bool {
	switch n.Kind {
	case api.NodeNum:
		// A number has no sign of its own: what is below 0 is written by a node of its own.
		return n.Num >= 0
	case api.NodeText:
		return len(n.Text) <= api.MaxText
	case api.NodeTruth:
		return n.Num == 0 || n.Num == 1
	case api.NodeBad:
		return api.BadDiv <= n.Num && n.Num <= api.BadNone
	case api.NodeRef:
		return isRef(n.Ref)
	case api.NodeBox:
		return isRef(n.Ref) && isRef(n.To)
	case api.NodeNeg:
		return len(n.Kids) == 1
	case api.NodeTwo:
		return api.Equal <= n.Num && n.Num <= api.Div && len(n.Kids) == 2
	case api.NodeCall:
		return isName(n.Text)
	}
	return false
}

// hasMore tells whether there is something in a field that the node's kind does not use.
func hasMore(n api.Node) bool {
	switch n.Kind {
	case api.NodeNum, api.NodeTruth, api.NodeBad:
		n.Num = 0
	case api.NodeText:
		n.Text = ""
	case api.NodeRef:
		n.Ref = api.Ref{}
	case api.NodeBox:
		n.Ref, n.To = api.Ref{}, api.Ref{}
	case api.NodeNeg:
		n.Kids = nil
	case api.NodeTwo:
		n.Num, n.Kids = 0, nil
	case api.NodeCall:
		n.Text, n.Kids = "", nil
	}
	return n.Num != 0 || n.Text != "" || n.Ref != api.Ref{} || n.To != api.Ref{} || len(n.Kids) > 0
}

func isRef(r api.Ref) bool { return addr.Check(r.Cell) == nil }

func isName(word string) bool {
	if len(word) < minName || len(word) > maxName {
		return false
	}
	for _, letter := range []byte(word) {
		if letter < 'A' || letter > 'Z' {
			return false
		}
	}
	return true
}
