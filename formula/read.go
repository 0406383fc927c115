package formula

import (
	"strings"

	"sccsettle/addr"
	"sccsettle/api"
	"sccsettle/value"
)

// fault ends the reading: a panic where it is met, which Parse recovers.
type fault struct {
	at  int
	err api.Errno
}

// reader stands at a place of a text, within so many levels. It goes on only behind what is found right, so that a fault lies where it stands.
type reader struct {
	text  string
	at    int
	depth int
}

func readFormula(text string) api.Node {
	r := reader{text: text}
	if len(text) > api.MaxText {
		panic(r.fault(api.ErrFull))
	}
	if Constant(text) {
		panic(r.fault(api.ErrSyntax))
	}
	r.at = len(begin)
	n := r.expression(loosest)
	r.blanks()
	if r.at < len(text) {
		panic(r.fault(api.ErrSyntax))
	}
	return n
}

func (r *reader) fault(err api.Errno) fault { return fault{r.at, err} }

// expression reads operands with operators of a level between them, from the left.
func (r *reader) expression(level int) api.Node {
	if level > tightest {
		return r.operand()
	}
	left := r.expression(level + 1)
next:
	op := r.operator(level)
	if op == 0 {
		return left
	}
	right := r.expression(level + 1)
	left = api.Node{Kind: api.NodeTwo, Num: op, Kids: []api.Node{left, right}}
	goto next
}

// operator takes the operator that stands ahead; 0, if there is none of that level.
func (r *reader) operator(level int) int {
	r.blanks()
	op := longestOperator(r.rest())
	if operators[op].level != level {
		return 0
	}
	r.at += len(operators[op].text)
	return op
}

// longestOperator is that with which a text begins; 0, if there is none.
func longestOperator(text string) int {
	longest := 0
	for op, o := range operators {
		if strings.HasPrefix(text, o.text) && len(o.text) > len(operators[longest].text) {
			longest = op
		}
	}
	return longest
}

func (r *reader) operand() api.Node {
	r.blanks()
	switch r.next() {
	case '-':
		return r.negative()
	case '(':
		return r.bracket()
	case '"':
		return r.quoted()
	case '#':
		return r.bad()
	}
	return r.word()
}

func (r *reader) negative() api.Node {
	n := api.Node{Kind: api.NodeNeg}
	r.deeper(func() {
		r.at++
		n.Kids = []api.Node{r.operand()}
	})
	return n
}

func (r *reader) bracket() api.Node {
	var n api.Node
	r.deeper(func() {
		r.at++
		n = r.expression(loosest)
		r.mustTake(')')
	})
	return n
}

func (r *reader) call(name string) api.Node {
	n := api.Node{Kind: api.NodeCall, Text: name}
	r.deeper(func() {
		r.at += len(name) + len("(")
		n.Kids = r.arguments()
	})
	return n
}

// deeper reads what stands a level deeper. It is called ahead of what makes the level, which is where one too many is told.
func (r *reader) deeper(inside func()) {
	if r.depth == api.MaxDepth {
		panic(r.fault(api.ErrFull))
	}
	r.depth++
	inside()
	r.depth--
}

func (r *reader) arguments() []api.Node {
	if r.take(')') {
		return nil
	}
	arguments := []api.Node{r.argument()}
	for r.take(',') {
		arguments = append(arguments, r.argument())
	}
	r.mustTake(')')
	return arguments
}

// argument reads a box, which a `:` right behind a ref tells from an expression.
func (r *reader) argument() api.Node {
	r.blanks()
	first := r.token()
	from, err := addr.Ref(first)
	if err != nil || !r.isBehind(first, ":") {
		return r.expression(loosest)
	}
	r.at += len(first) + len(":")
	second := r.token()
	to, err := addr.Ref(second)
	if err != nil {
		panic(r.fault(api.ErrSyntax))
	}
	r.at += len(second)
	return api.Node{Kind: api.NodeBox, Ref: from, To: to}
}

// quoted needs no bound of its own: the bound of the whole text is narrower.
func (r *reader) quoted() api.Node {
	said := ""
	rest := r.rest()[len(`"`):]
	for {
		part, behind, ended := strings.Cut(rest, `"`)
		if !ended {
			panic(r.fault(api.ErrSyntax))
		}
		said += part
		if !strings.HasPrefix(behind, `"`) {
			r.at = len(r.text) - len(behind)
			return api.Node{Kind: api.NodeText, Text: said}
		}
		said += `"`
		rest = behind[len(`"`):]
	}
}

func (r *reader) bad() api.Node {
	for num := api.BadDiv; num <= api.BadNone; num++ {
		shown := value.Show(api.Value{Kind: api.Bad, Num: num})
		if strings.HasPrefix(r.rest(), shown) {
			r.at += len(shown)
			return api.Node{Kind: api.NodeBad, Num: num}
		}
	}
	panic(r.fault(api.ErrSyntax))
}

func (r *reader) word() api.Node {
	word := r.token()
	// Asked first: TRUE is a name, too, where a bracket makes a call of it.
	if isName(word) && r.isBehind(word, "(") {
		return r.call(word)
	}
	n, ok := meaning(word)
	if !ok {
		panic(r.fault(api.ErrSyntax))
	}
	r.at += len(word)
	return n
}

// meaning of a token of letters, digits and `$` that is no name; false, if it has none.
func meaning(word string) (api.Node, bool) {
	if ref, err := addr.Ref(word); err == nil {
		return api.Node{Kind: api.NodeRef, Ref: ref}, true
	}
	v := value.Read(word)
	switch v.Kind {
	case api.Number:
		return api.Node{Kind: api.NodeNum, Num: v.Num}, true
	case api.Truth:
		return api.Node{Kind: api.NodeTruth, Num: v.Num}, true
	}
	return api.Node{}, false
}

// token is all letters, digits and `$` that stand together here; it is not taken.
func (r *reader) token() string {
	end := r.at
	for end < len(r.text) && isOfToken(r.text[end]) {
		end++
	}
	return r.text[r.at:end]
}

// isOfToken takes small letters, too: none of them is of a token that may be, but the whole token is wrong then.
func isOfToken(b byte) bool {
	return 'A' <= b && b <= 'Z' || 'a' <= b && b <= 'z' || '0' <= b && b <= '9' || b == '$'
}

func (r *reader) isBehind(token, sign string) bool {
	return strings.HasPrefix(r.rest()[len(token):], sign)
}

func (r *reader) take(sign byte) bool {
	r.blanks()
	if r.next() != sign {
		return false
	}
	r.at++
	return true
}

func (r *reader) mustTake(sign byte) {
	if !r.take(sign) {
		panic(r.fault(api.ErrSyntax))
	}
}

func (r *reader) blanks() {
	for r.next() == ' ' {
		r.at++
	}
}

// next is 0 at the end: a byte 0 can stand nowhere outside of a quoted text, so that both are refused alike.
func (r *reader) next() byte {
	if r.at == len(r.text) {
		return 0
	}
	return r.text[r.at]
}

func (r *reader) rest() string { return r.text[r.at:] }
