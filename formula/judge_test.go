package formula_test

import (
	"math/rand/v2"
	"regexp"
	"slices"
	"strconv"
	"strings"
	"testing"

	"sccsettle/api"
	"sccsettle/formula"
	"sccsettle/plain"
)

// judge reads formulas by another way than the program: token by token, with what is open on a stack; it writes operands ahead of their operators.
type judge struct {
	text   string
	at     int
	stack  []entry
	out    []string
	wants  bool // an operand is wanted
	begins bool // an argument begins
	boxed  bool // a box has just ended
}

// entry is an operator (its level is 1 to 4), or what makes a level: "neg" (5), or "(" or a name (0).
type entry struct {
	sign  string
	level int
	args  int
}

var (
	tokenForm  = regexp.MustCompile(`^(?:<=|<>|>=|[=<>&+*/(),-]|(?:"[^"]*")+|#(?:DIV|VALUE|REF|NAME|NUM|NONE)!|[A-Za-z0-9$]+)`)
	wordForm   = regexp.MustCompile(`^[A-Za-z0-9$]+`)
	numberForm = regexp.MustCompile(`^(?:0|[1-9][0-9]{0,18})$`)
	refForm    = regexp.MustCompile(`^\$?[A-Z]\$?[1-9][0-9]?$`)
	nameForm   = regexp.MustCompile(`^[A-Z]{2,10}$`)
	levelOf    = map[string]int{"=": 1, "<>": 1, "<": 1, "<=": 1, ">": 1, ">=": 1, "&": 2, "+": 3, "-": 3, "*": 4, "/": 4}
)

// judged: operands ahead of operators, or the place and the error.
func judged(text string) (string, int, api.Errno) {
	if len(text) > 200 {
		return "", 0, api.ErrFull
	}
	if !strings.HasPrefix(text, "=") {
		return "", 0, api.ErrSyntax
	}
	j := judge{text: text, at: 1, wants: true}
	for {
		j.at = len(text) - len(strings.TrimLeft(text[j.at:], " "))
		if j.at == len(text) {
			break
		}
		if e := j.step(tokenForm.FindString(text[j.at:])); e != api.OK {
			return "", j.at, e
		}
	}
	j.popTo(1)
	if j.wants || len(j.stack) > 0 {
		return "", j.at, api.ErrSyntax
	}
	return strings.Join(j.out, " "), 0, api.OK
}

func (j *judge) step(token string) api.Errno {
	behind := j.text[j.at+len(token):]
	if token == "" || token[0] == '"' && strings.HasPrefix(behind, `"`) {
		return api.ErrSyntax
	}
	if j.wants {
		return j.operand(token, behind)
	}
	return j.between(token)
}

func (j *judge) operand(token, behind string) api.Errno {
	begins := j.begins
	j.begins = false
	switch {
	case token == "-":
		return j.open(entry{sign: "neg", level: 5}, 1)
	case token == "(":
		return j.open(entry{sign: "("}, 1)
	case token == ")" && begins && j.stack[len(j.stack)-1].args == 0:
		j.at++
		j.shut(0)
	case nameForm.MatchString(token) && strings.HasPrefix(behind, "("):
		j.begins = true
		return j.open(entry{sign: token}, len(token)+1)
	case begins && refForm.MatchString(token) && strings.HasPrefix(behind, ":"):
		j.at += len(token) + 1
		second := wordForm.FindString(behind[1:])
		if !refForm.MatchString(second) {
			return api.ErrSyntax
		}
		j.boxed = true
		j.ended(token+":"+second, len(second))
	case isOperand(token):
		j.ended(token, len(token))
	default:
		return api.ErrSyntax
	}
	return api.OK
}

func isOperand(token string) bool {
	if numberForm.MatchString(token) {
		return len(token) < 19 || token <= "9223372036854775807"
	}
	return token == "TRUE" || token == "FALSE" || token[0] == '"' || token[0] == '#' || refForm.MatchString(token)
}

func (j *judge) open(e entry, length int) api.Errno {
	depth := 0
	for _, o := range j.stack {
		if o.level == 0 || o.level == 5 {
			depth++
		}
	}
	if depth == 30 {
		return api.ErrFull
	}
	j.stack = append(j.stack, e)
	j.at += length
	return api.OK
}

func (j *judge) between(token string) api.Errno {
	level := levelOf[token]
	if level > 0 && !j.boxed {
		j.popTo(level)
		j.stack = append(j.stack, entry{sign: token, level: level})
		j.wants = true
		j.at += len(token)
		return api.OK
	}
	if token != ")" && token != "," {
		return api.ErrSyntax
	}
	j.popTo(1)
	if len(j.stack) == 0 || token == "," && j.stack[len(j.stack)-1].sign == "(" {
		return api.ErrSyntax
	}
	j.boxed = false
	j.at++
	if token == "," {
		j.stack[len(j.stack)-1].args++
		j.wants, j.begins = true, true
		return api.OK
	}
	j.shut(1)
	return api.OK
}

// popTo writes what is on the stack down to an operator that is looser, or to a bracket.
func (j *judge) popTo(level int) {
	for len(j.stack) > 0 && j.stack[len(j.stack)-1].level >= level {
		j.out = append(j.out, j.stack[len(j.stack)-1].sign)
		j.stack = j.stack[:len(j.stack)-1]
	}
}

func (j *judge) shut(last int) {
	top := j.stack[len(j.stack)-1]
	j.stack = j.stack[:len(j.stack)-1]
	if top.sign != "(" {
		j.out = append(j.out, top.sign+strconv.Itoa(top.args+last))
	}
	j.wants = false
	j.popTo(5)
}

func (j *judge) ended(operand string, length int) {
	j.at += length
	j.out = append(j.out, operand)
	j.wants = false
	j.popTo(5)
}

// turned writes a node as the judge does.
func turned(n api.Node) string {
	var parts []string
	for _, kid := range n.Kids {
		parts = append(parts, turned(kid))
	}
	switch n.Kind {
	case api.NodeText:
		parts = append(parts, `"`+strings.ReplaceAll(n.Text, `"`, `""`)+`"`)
	case api.NodeNeg:
		parts = append(parts, "neg")
	case api.NodeTwo:
		parts = append(parts, signs[n.Num])
	case api.NodeCall:
		parts = append(parts, n.Text+strconv.Itoa(len(n.Kids)))
	default:
		parts = append(parts, tree(n))
	}
	return strings.Join(parts, " ")
}

// hold holds Parse against the judge, and Print against Parse.
func hold(t *testing.T, text string) {
	t.Helper()
	want, wantAt, wantErr := judged(text)
	n, at, err := formula.Parse(text)
	if at != wantAt || plain.Told(err) != wantErr {
		t.Fatalf("Parse(%q): %d, %v, want %d, %v", text, at, err, wantAt, wantErr)
	}
	if err != nil {
		return
	}
	if got := turned(n); got != want {
		t.Fatalf("Parse(%q) = %s, want %s", text, got, want)
	}
	holdPrint(t, n)
}

// holdPrint: what is printed is read as it was, and without any of its brackets it is not.
func holdPrint(t *testing.T, n api.Node) {
	t.Helper()
	text, err := formula.Print(n)
	if err != nil {
		t.Fatalf("Print of %s: %v", tree(n), err)
	}
	back, _, err := formula.Parse(text)
	if err != nil || !same(back, n) {
		t.Fatalf("Print of %s = %q, of which Parse makes %s, %v", tree(n), text, tree(back), err)
	}
	tokens := tokensOf(text)
	if slices.Contains(tokens, " ") {
		t.Fatalf("Print of %s = %q, with a blank", tree(n), text)
	}
	for i, token := range tokens {
		if token != "(" || nameForm.MatchString(tokens[i-1]) {
			continue
		}
		without := slices.Delete(slices.Delete(slices.Clone(tokens), partner(tokens, i), partner(tokens, i)+1), i, i+1)
		if other, _, err := formula.Parse(strings.Join(without, "")); err == nil && same(other, n) {
			t.Fatalf("Print of %s = %q, where brackets are needless", tree(n), text)
		}
	}
}

func tokensOf(text string) []string {
	var tokens []string
	for text != "" {
		length := max(1, len(tokenForm.FindString(text)))
		tokens = append(tokens, text[:length])
		text = text[length:]
	}
	return tokens
}

// partner: where the bracket ends that begins at i.
func partner(tokens []string, i int) int {
	depth := 0
	for ; ; i++ {
		switch tokens[i] {
		case "(":
			depth++
		case ")":
			depth--
		}
		if depth == 0 {
			return i
		}
	}
}

// TestF2AllShort: all texts of up to four pieces.
func TestF2AllShort(t *testing.T) {
	pieces := []string{"1", "A1", "$", "x", "TRUE", "SUM(", "(", ")", ",", ":", "-", "<", "=", ">", "*", "&", "+", " ", `"`, "#DIV!", "?"}
	texts := []string{"="}
	for range 4 {
		var longer []string
		for _, text := range texts {
			for _, piece := range pieces {
				longer = append(longer, text+piece)
				hold(t, text+piece)
			}
		}
		texts = longer
	}
}

// TestF2Inside: all pieces wherever they may come in, or go, in formulas that have some of everything.
func TestF2Inside(t *testing.T) {
	pieces := []string{"1", "0", "A", "B2", "$", "x", "TRUE", "OR(", "(", ")", ",", ":", "-", "<", "=", ">", "*", "/", "&", "+", " ", `"`, `""`, "#", "!", "?", "\x00", "\xff"}
	for _, text := range []string{
		"=SUM(A1:$B$2,-(1+2),OR())*3", `=IF(A1<>"x""y",#DIV!,--B2&" ")`, "= ( 1 <= $C4 ) - ABS( D$5 : E6 )", "=MAX(A1:B2, C3:D4)>=(TRUE=FALSE)",
		nested(29, "1-(2-A1)", "OR(", "-", "("),
	} {
		hold(t, text)
		for at := range len(text) + 1 {
			hold(t, text[:at])
			hold(t, text[at:])
			for _, piece := range pieces {
				hold(t, text[:at]+piece+text[at:])
				hold(t, text[:at]+piece+text[min(at+1, len(text)):])
			}
		}
		for at := range len(text) {
			hold(t, text[:at]+text[at+1:])
		}
	}
}

// TestF2Drawn: longer texts, drawn from fixed seeds, some of them with many levels.
func TestF2Drawn(t *testing.T) {
	r := rand.New(rand.NewPCG(1, 2))
	opens := []string{"-", "(", "OR(", " ", "-", "(1+", "OR(A1:B2,"}
	operands := []string{"1", "A1", "$B$2", "TRUE", `"x"`, `""`, "#REF!", "OR()", "0", "9223372036854775807", "OR(A1:B2)", "(1)", "-2"}
	between := []string{"=", "<>", "<", "<=", ">", ">=", "&", "+", "-", "*", "/", ",", " + "}
	for range 20000 {
		var text strings.Builder
		text.WriteString("=")
		depth := 0
		for range r.IntN(12) {
			for range r.IntN(1 + r.IntN(12)) {
				open := opens[r.IntN(len(opens))]
				depth += strings.Count(open, "(")
				text.WriteString(open)
			}
			text.WriteString(operands[r.IntN(len(operands))])
			for depth > 0 && r.IntN(3) == 0 {
				text.WriteString(")")
				depth--
			}
			text.WriteString(between[r.IntN(len(between))])
		}
		text.WriteString("1" + strings.Repeat(")", max(0, depth-r.IntN(8)/7)))
		hold(t, text.String())
	}
}

// TestF3Drawn: nodes drawn from fixed seeds.
func TestF3Drawn(t *testing.T) {
	r := rand.New(rand.NewPCG(3, 4))
	printed := 0
	for range 30000 {
		n := drawn(r, r.IntN(8))
		if err := formula.Check(n); err == nil {
			printed++
			holdPrint(t, n)
		} else if plain.Told(err) != api.ErrFull {
			t.Fatalf("Check of %s: %v", tree(n), err)
		}
	}
	if printed < 10000 {
		t.Errorf("only %d nodes were printed", printed)
	}
}

func drawn(r *rand.Rand, height int) api.Node {
	drawnRef := func() api.Ref {
		return api.Ref{Cell: api.Cell{Col: 1 + r.IntN(26), Row: 1 + r.IntN(99)}, FixCol: r.IntN(2) == 0, FixRow: r.IntN(2) == 0}
	}
	switch kind := r.IntN(8); {
	case height > 0 && kind < 4:
		return two(1+r.IntN(11), drawn(r, height-1), drawn(r, height-1))
	case height > 0 && kind == 4:
		return neg(drawn(r, height-1))
	case height > 0 && kind == 5:
		n := call([]string{"OR", "SUM", "TRUE"}[r.IntN(3)])
		for range r.IntN(4) {
			n.Kids = append(n.Kids, drawn(r, height-1))
			if r.IntN(3) == 0 {
				n.Kids = append(n.Kids, box(drawnRef(), drawnRef()))
			}
		}
		return n
	}
	leaves := []api.Node{number(0), number(7), truth(0), truth(1), quote(""), quote(`"`), quote("( "), bad(1 + r.IntN(6)), ref(drawnRef())}
	return leaves[r.IntN(len(leaves))]
}
