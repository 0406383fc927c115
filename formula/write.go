package formula

import (
	"strconv"
	"strings"

	"sccsettle/addr"
	"sccsettle/api"
	"sccsettle/value"
)

// writer counts the levels of what it writes just as Parse will.
type writer struct {
	text    strings.Builder
	depth   int
	deepest int
}

// writeFormula writes a node that is one; it also tells how many levels there are within one another.
func writeFormula(n api.Node) (string, int) {
	var w writer
	w.text.WriteString(begin)
	w.node(n)
	return w.text.String(), w.deepest
}

func (w *writer) node(n api.Node) {
	switch n.Kind {
	case api.NodeNeg:
		w.deeper("-", func() { w.operand(n.Kids[0], tightest+1) }, "")
	case api.NodeTwo:
		level := operators[n.Num].level
		w.operand(n.Kids[0], level)
		w.text.WriteString(operators[n.Num].text)
		// Read from the left: one as loose belongs to the left operand, unless brackets hold it.
		w.operand(n.Kids[1], level+1)
	case api.NodeCall:
		w.deeper(n.Text+"(", func() { w.arguments(n.Kids) }, ")")
	default:
		w.text.WriteString(leafText(n))
	}
}

// operand writes one with two operands of its own in brackets, if it is looser than the level that is asked for.
func (w *writer) operand(n api.Node, level int) {
	if n.Kind == api.NodeTwo && operators[n.Num].level < level {
		w.deeper("(", func() { w.node(n) }, ")")
		return
	}
	w.node(n)
}

func (w *writer) arguments(kids []api.Node) {
	for i, kid := range kids {
		if i > 0 {
			w.text.WriteString(",")
		}
		w.node(kid)
	}
}

func (w *writer) deeper(open string, inside func(), shut string) {
	w.depth++
	w.deepest = max(w.deepest, w.depth)
	w.text.WriteString(open)
	inside()
	w.text.WriteString(shut)
	w.depth--
}

// leafText writes a node without kids.
func leafText(n api.Node) string {
	switch n.Kind {
	case api.NodeNum:
		return strconv.Itoa(n.Num)
	case api.NodeText:
		return `"` + strings.ReplaceAll(n.Text, `"`, `""`) + `"`
	case api.NodeTruth:
		return value.Show(api.Value{Kind: api.Truth, Num: n.Num})
	case api.NodeBad:
		return value.Show(api.Value{Kind: api.Bad, Num: n.Num})
	case api.NodeRef:
		return refText(n.Ref)
	case api.NodeBox:
		return refText(n.Ref) + ":" + refText(n.To)
	}
	return ""
}

// refText has no error to tell: only nodes whose refs have cells are written.
func refText(r api.Ref) string {
	text, _ := addr.RefName(r)
	return text
}
