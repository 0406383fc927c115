package eval_test

import (
	"bytes"
	"fmt"
	"math"
	"math/big"
	"math/rand/v2"
	"regexp"
	"strings"
	"testing"

	"sccsettle/api"
	"sccsettle/eval"
	"sccsettle/formula"
)

// The judge works out a node by another way than the program: all arguments are worked out ahead, and what comes out is a thing of Go's own: nil, *big.Int, string, bool, wrong, or a [][]any of a box.
type judge map[string]any

// wrong is what is bad.
type wrong int

// String keeps what is bad from being shown as a number.
func (w wrong) String() string { return "#" }

// comes is what a node comes to, as a box where it is one.
func (j judge) comes(n api.Node) any {
	switch n.Kind {
	case api.NodeNum:
		return big.NewInt(int64(n.Num))
	case api.NodeText:
		return n.Text
	case api.NodeTruth:
		return n.Num == 1
	case api.NodeBad:
		return wrong(n.Num)
	case api.NodeRef:
		return j[nameOf(n.Ref.Cell.Col, n.Ref.Cell.Row)]
	case api.NodeBox:
		return j.box(n.Ref.Cell, n.To.Cell)
	}
	var args []any
	for _, kid := range n.Kids {
		args = append(args, j.comes(kid))
	}
	switch n.Kind {
	case api.NodeNeg:
		return reckon(api.Sub, nil, args[0])
	case api.NodeTwo:
		return two(n.Num, args[0], args[1])
	}
	return called(n.Text, args)
}

func nameOf(col, row int) string { return fmt.Sprintf("%c%d", 'A'+col-1, row) }

func (j judge) box(a, b api.Cell) (rows [][]any) {
	for row := min(a.Row, b.Row); row <= max(a.Row, b.Row); row++ {
		var line []any
		for col := min(a.Col, b.Col); col <= max(a.Col, b.Col); col++ {
			line = append(line, j[nameOf(col, row)])
		}
		rows = append(rows, line)
	}
	return rows
}

func show(v any) string {
	switch x := v.(type) {
	case nil:
		return ""
	case bool:
		return strings.ToUpper(fmt.Sprint(x))
	}
	return fmt.Sprint(v)
}

var digits = regexp.MustCompile(`^(0|-?[1-9][0-9]*)$`)

func fit(n *big.Int) any {
	if !n.IsInt64() {
		return wrong(api.BadNum)
	}
	return n
}

func numberOf(v any) any {
	switch x := v.(type) {
	case nil:
		return new(big.Int)
	case bool:
		if x {
			return big.NewInt(1)
		}
		return new(big.Int)
	case string:
		n, _ := new(big.Int).SetString(x, 10)
		if !digits.MatchString(x) || !n.IsInt64() {
			return wrong(api.BadValue)
		}
		return n
	}
	return v
}

func truthOf(v any) any {
	switch x := v.(type) {
	case nil:
		return false
	case *big.Int:
		return x.Sign() != 0
	case string:
		if x != "TRUE" && x != "FALSE" {
			return wrong(api.BadValue)
		}
		return x == "TRUE"
	}
	return v
}

// first that is wrong of many.
func first(l ...any) (wrong, bool) {
	for _, v := range l {
		if w, is := v.(wrong); is {
			return w, true
		}
	}
	return 0, false
}

func reckon(op int, a, b any) any {
	a, b = numberOf(a), numberOf(b)
	if w, is := first(a, b); is {
		return w
	}
	x, y := a.(*big.Int), b.(*big.Int)
	switch op {
	case api.Add:
		return fit(new(big.Int).Add(x, y))
	case api.Sub:
		return fit(new(big.Int).Sub(x, y))
	case api.Mul:
		return fit(new(big.Int).Mul(x, y))
	}
	if y.Sign() == 0 {
		return wrong(api.BadDiv)
	}
	return fit(new(big.Int).Quo(x, y))
}

func two(op int, a, b any) any {
	if op >= api.Add {
		return reckon(op, a, b)
	}
	if w, is := first(a, b); is {
		return w
	}
	if op == api.Cat {
		return short(show(a) + show(b))
	}
	c := held(a, b)
	return []bool{c == 0, c != 0, c < 0, c <= 0, c > 0, c >= 0}[op-api.Equal]
}

func short(s string) any {
	if len(s) > 200 {
		return wrong(api.BadValue)
	}
	return s
}

// held puts each value in a class, and within it beside another one.
func held(a, b any) int {
	class := func(v, beside any) int {
		if v == nil {
			v = beside
		}
		switch v.(type) {
		case *big.Int:
			return 1
		case string:
			return 2
		case bool:
			return 3
		}
		return 0
	}
	x, y := class(a, b), class(b, a)
	if x != y {
		return x - y
	}
	switch x {
	case 1:
		return numberOf(a).(*big.Int).Cmp(numberOf(b).(*big.Int))
	case 2:
		return bytes.Compare([]byte(show(a)), []byte(show(b)))
	case 3:
		return numberOf(a).(*big.Int).Cmp(numberOf(b).(*big.Int))
	}
	return 0
}

// shapes: of each name what its arguments are: `*` many, `?` any, of those that are worked out all `v` values, `n` numbers, `t` texts, `b` boxes.
var shapes = map[string]string{
	"SUM": "*", "MIN": "*", "MAX": "*", "AVG": "*", "COUNT": "*", "COUNTA": "*", "AND": "*", "OR": "*", "CAT": "*",
	"IF": "?", "IFBAD": "?", "BADP": "?", "BLANKP": "?", "NUMP": "?", "CHOOSE": "?", "NONE": "?",
	"NOT": "v", "ABS": "n", "SIGN": "n", "MOD": "nn", "POWER": "nn",
	"LEN": "t", "LEFT": "tn", "RIGHT": "tn", "MID": "tnn", "UPPER": "t", "LOWER": "t", "FIND": "tt", "REPT": "tn", "EXACT": "tt", "VALUE": "t",
	"ROWS": "b", "COLS": "b", "INDEX": "bnn", "MATCH": "vb", "LOOKUP": "vbn", "COUNTIF": "bv", "SUMIF": "bvb",
}

func called(name string, args []any) any {
	shape, is := shapes[name]
	switch {
	case !is:
		return wrong(api.BadName)
	case shape == "*":
		return ofMany(name, args)
	case shape == "?":
		return ofAny(name, plainValues(args))
	case len(args) != len(shape):
		return wrong(api.BadValue)
	}
	for i, v := range args {
		if _, box := v.([][]any); shape[i] == 'b' && !box {
			return wrong(api.BadValue)
		}
	}
	for i, v := range plainValues(args) {
		if w, bad := v.(wrong); bad && shape[i] != 'b' {
			return w
		}
	}
	for i := range args {
		switch shape[i] {
		case 'n':
			if args[i] = numberOf(args[i]); args[i] == wrong(api.BadValue) {
				return args[i]
			}
		case 't':
			args[i] = show(args[i])
		}
	}
	if strings.Contains(shape, "b") {
		return ofBox(name, args)
	}
	return ofPlain(name, args)
}

// plainValues makes boxes what they are as values.
func plainValues(args []any) []any {
	var l []any
	for _, v := range args {
		if _, box := v.([][]any); box {
			v = wrong(api.BadValue)
		}
		l = append(l, v)
	}
	return l
}

func ofMany(name string, args []any) any {
	if len(args) == 0 {
		return wrong(api.BadValue)
	}
	var numbers, truths, plain []any // plain: as they are
	var counted, filled int64
	for _, v := range args {
		rows, box := v.([][]any)
		if !box {
			numbers, truths, plain = append(numbers, numberOf(v)), append(truths, truthOf(v)), append(plain, v)
			if _, is := numberOf(v).(wrong); !is {
				counted++
			}
		}
		for _, row := range rows {
			for _, c := range row {
				plain = append(plain, c)
				switch c.(type) {
				case *big.Int:
					counted++
					numbers, truths = append(numbers, c), append(truths, truthOf(c))
				case bool:
					truths = append(truths, c)
				case wrong:
					numbers, truths = append(numbers, c), append(truths, c)
				}
			}
		}
	}
	for _, v := range plain {
		if v != nil {
			filled++
		}
	}
	switch name {
	case "COUNT":
		return big.NewInt(counted)
	case "COUNTA":
		return big.NewInt(filled)
	case "CAT":
		var whole any = ""
		for _, v := range plain {
			whole = two(api.Cat, whole, v)
		}
		return whole
	case "AND", "OR":
		return allOrSome(name, truths)
	}
	return added(name, numbers)
}

func allOrSome(name string, truths []any) any {
	if w, is := first(truths...); is {
		return w
	}
	seen := fmt.Sprint(truths)
	switch {
	case len(truths) == 0:
		return wrong(api.BadValue)
	case name == "OR":
		return strings.Contains(seen, "true")
	}
	return !strings.Contains(seen, "false")
}

func added(name string, numbers []any) any {
	if w, is := first(numbers...); is {
		return w
	}
	total := new(big.Int)
	var low, high *big.Int
	for _, v := range numbers {
		n := v.(*big.Int)
		if total.IsInt64() {
			total = new(big.Int).Add(total, n)
		}
		if low == nil || n.Cmp(low) < 0 {
			low = n
		}
		if high == nil || n.Cmp(high) > 0 {
			high = n
		}
	}
	switch {
	case name == "SUM":
		return fit(total)
	case name == "AVG" && len(numbers) == 0:
		return wrong(api.BadDiv)
	case name == "AVG":
		return reckon(api.Div, fit(total), big.NewInt(int64(len(numbers))))
	case low == nil:
		return new(big.Int)
	case name == "MIN":
		return low
	}
	return high
}

func ofAny(name string, args []any) any {
	many := map[string][2]int{"IF": {2, 3}, "IFBAD": {2, 2}, "CHOOSE": {2, 200}, "NONE": {0, 0}}
	bounds, is := many[name]
	if !is {
		bounds = [2]int{1, 1}
	}
	if len(args) < bounds[0] || len(args) > bounds[1] {
		return wrong(api.BadValue)
	}
	switch name {
	case "NONE":
		return wrong(api.BadNone)
	case "IF":
		switch args = append(args, false); truthOf(args[0]) {
		case true:
			return args[1]
		case false:
			return args[2]
		}
		return truthOf(args[0])
	case "IFBAD":
		if _, bad := args[0].(wrong); bad {
			return args[1]
		}
		return args[0]
	case "BLANKP":
		return args[0] == nil
	case "CHOOSE":
		n := numberOf(args[0])
		for i := 1; i < len(args); i++ {
			if show(n) == fmt.Sprint(i) {
				return args[i]
			}
		}
		if _, bad := n.(wrong); bad {
			return n
		}
		return wrong(api.BadValue)
	case "NUMP":
		_, is := args[0].(*big.Int)
		return is
	}
	_, bad := args[0].(wrong)
	return bad
}

func ofPlain(name string, args []any) any {
	switch name {
	case "NOT":
		if is, fine := truthOf(args[0]).(bool); fine {
			return !is
		}
		return wrong(api.BadValue)
	case "VALUE":
		return numberOf(args[0])
	case "EXACT":
		return args[0] == args[1]
	case "LEN":
		return big.NewInt(int64(len(args[0].(string))))
	case "UPPER", "LOWER":
		return letters(name, args[0].(string))
	case "FIND":
		head, _, found := strings.Cut(args[1].(string), args[0].(string))
		if !found {
			return wrong(api.BadValue)
		}
		return big.NewInt(int64(len(head) + 1))
	case "LEFT", "RIGHT", "MID", "REPT":
		return piece(name, args)
	}
	x := args[0].(*big.Int)
	switch name {
	case "ABS":
		return fit(new(big.Int).Abs(x))
	case "SIGN":
		return big.NewInt(int64(x.Sign()))
	}
	y := args[1].(*big.Int)
	if name == "MOD" {
		if y.Sign() == 0 {
			return wrong(api.BadDiv)
		}
		rest := new(big.Int).Rem(x, y)
		if rest.Sign()*y.Sign() < 0 {
			rest.Add(rest, y)
		}
		return rest
	}
	if y.Sign() < 0 || y.Cmp(big.NewInt(64)) > 0 {
		return wrong(api.BadNum)
	}
	return fit(new(big.Int).Exp(x, y, nil))
}

var small, large = regexp.MustCompile(`[a-z]`), regexp.MustCompile(`[A-Z]`)

func letters(name, s string) any {
	if name == "UPPER" {
		return small.ReplaceAllStringFunc(s, strings.ToUpper)
	}
	return large.ReplaceAllStringFunc(s, strings.ToLower)
}

// piece takes a text byte by byte.
func piece(name string, args []any) any {
	s := args[0].(string)
	last := args[len(args)-1].(*big.Int)
	if last.Sign() < 0 {
		return wrong(api.BadValue)
	}
	within := func(at int) bool { return big.NewInt(int64(at)).Cmp(last) < 0 }
	var out []byte
	switch name {
	case "LEFT":
		for i := range len(s) {
			if within(i) {
				out = append(out, s[i])
			}
		}
	case "RIGHT":
		for i := range len(s) {
			if within(len(s) - 1 - i) {
				out = append(out, s[i])
			}
		}
	case "MID":
		from := args[1].(*big.Int)
		if from.Sign() <= 0 {
			return wrong(api.BadValue)
		}
		for i := range len(s) {
			if past := new(big.Int).Sub(big.NewInt(int64(i+1)), from); past.Sign() >= 0 && past.Cmp(last) < 0 {
				out = append(out, s[i])
			}
		}
	default:
		for i := 0; within(i) && len(s) > 0 && len(out) <= 200; i++ {
			out = append(out, s...)
		}
		return short(string(out))
	}
	return string(out)
}

func ofBox(name string, args []any) any {
	var boxes [][][]any
	var others []any
	for _, v := range args {
		if rows, is := v.([][]any); is {
			boxes = append(boxes, rows)
		} else {
			others = append(others, v)
		}
	}
	b := boxes[0]
	equal := func(c any) bool { return two(api.Equal, c, others[0]) == true }
	at := func(rows [][]any, row, col any) any {
		for r := range rows {
			for c := range rows[r] {
				if show(row) == fmt.Sprint(r+1) && show(col) == fmt.Sprint(c+1) {
					return rows[r][c]
				}
			}
		}
		return wrong(api.BadRef)
	}
	switch name {
	case "ROWS":
		return big.NewInt(int64(len(b)))
	case "COLS":
		return big.NewInt(int64(len(b[0])))
	case "INDEX":
		return at(b, others[0], others[1])
	case "LOOKUP":
		if col := others[1].(*big.Int); col.Sign() <= 0 || col.Cmp(big.NewInt(int64(len(b[0])))) > 0 {
			return wrong(api.BadRef)
		}
		for r := range b {
			if equal(b[r][0]) {
				return at(b, r+1, others[1])
			}
		}
		return wrong(api.BadNone)
	}
	return matching(name, boxes, equal)
}

func matching(name string, boxes [][][]any, equal func(c any) bool) any {
	b, s := boxes[0], boxes[len(boxes)-1]
	if len(b) != len(s) || len(b[0]) != len(s[0]) {
		return wrong(api.BadValue)
	}
	var places []int64
	var picked []any
	for r := range b {
		for c := range b[r] {
			if !equal(b[r][c]) {
				continue
			}
			places = append(places, int64(r*len(b[r])+c+1))
			switch s[r][c].(type) {
			case *big.Int, wrong:
				picked = append(picked, s[r][c])
			}
		}
	}
	switch {
	case name == "COUNTIF":
		return big.NewInt(int64(len(places)))
	case name == "SUMIF":
		return added("SUM", picked)
	case places == nil:
		return wrong(api.BadNone)
	}
	return big.NewInt(places[0])
}

func valueOf(v any) api.Value {
	switch x := v.(type) {
	case *big.Int:
		return number(int(x.Int64()))
	case string:
		return text(x)
	case bool:
		if x {
			return yes
		}
		return no
	case wrong:
		return bad(int(x))
	}
	return blank
}

// drawer draws sheets and formulas, of cells that lie close together.
type drawer struct{ *rand.Rand }

func (d drawer) of(l ...string) string { return l[d.IntN(len(l))] }

func (d drawer) value() any {
	switch d.IntN(9) {
	case 0, 1, 2:
		return big.NewInt(int64(d.IntN(9) - 4))
	case 3:
		return big.NewInt([]int64{math.MaxInt64, math.MinInt64, 1 << 62, 1 << 31, 63, 64, 100}[d.IntN(7)])
	case 4, 5:
		return d.of("", "x", "ab", "aBAb", "é", "12", "-3", "007", "TRUE", "FALSE", "#DIV!", "b", strings.Repeat("y", 150), strings.Repeat("yz", 100))
	case 6:
		return d.IntN(2) == 0
	case 7:
		return wrong(1 + d.IntN(6))
	}
	return nil
}

func (d drawer) cell() string { return d.of("A", "B", "C") + d.of("1", "2", "3", "4") }

func (d drawer) names() []string {
	var l []string
	for _, c := range counts {
		l = append(l, c.name)
	}
	return append(l, "NONE", "FLY")
}

func (d drawer) formula(levels int) string {
	if levels == 0 || d.IntN(4) == 0 {
		return d.of(d.cell(), d.cell(), d.cell(), "1", "2", "0", "3", `"x"`, `"ab"`, `"2"`, "TRUE", "FALSE", "#NUM!", "-1", "-2", "9223372036854775807", "65")
	}
	switch d.IntN(8) {
	case 0:
		return "(" + d.formula(levels-1) + d.of("=", "<>", "<", "<=", ">", ">=", "&", "+", "-", "*", "/") + d.formula(levels-1) + ")"
	case 1:
		return "-" + d.formula(levels-1)
	}
	return d.call(levels)
}

// call has mostly the arguments that its name asks for.
func (d drawer) call(levels int) string {
	name := d.of(d.names()...)
	shape := shapes[name]
	if shape == "*" || shape == "?" || shape == "" || d.IntN(20) == 0 {
		shape = strings.Repeat(shape, 1+d.IntN(3))
	}
	var args []string
	for _, letter := range shape {
		odds := map[rune]int{'b': 19, '*': 10}[letter]
		if d.IntN(20) < max(odds, 1) {
			args = append(args, d.cell()+":"+d.cell())
		} else {
			args = append(args, d.formula(levels-1))
		}
	}
	return name + "(" + strings.Join(args, ",") + ")"
}

// TestDrawn holds what drawn formulas come to against the judge.
func TestDrawn(t *testing.T) {
	d := drawer{rand.New(rand.NewPCG(5, 5))}
	fine := map[string]int{} // how often a call came to something that is not bad
	for range 8000 {
		j := judge{}
		var l []api.Shown
		for _, col := range "ABC" {
			for row := 1; row <= 4; row++ {
				name, v := fmt.Sprintf("%c%d", col, row), d.value()
				j[name] = v
				l = append(l, shown(name, valueOf(v)))
			}
		}
		for range 25 {
			given := "=" + d.call(2)
			n, _, err := formula.Parse(given)
			if err != nil {
				continue
			}
			want := valueOf(j.comes(n))
			if got, err := eval.Eval(n, l); got != want || err != nil {
				t.Fatalf("%s of %v = %v, %v, want %v", given, l, got, err, want)
			}
			if want.Kind != api.Bad {
				fine[n.Text]++
			}
		}
	}
	for _, c := range counts {
		if fine[c.name] < 50 {
			t.Errorf("%s was drawn too seldom: %d times", c.name, fine[c.name])
		}
	}
}
