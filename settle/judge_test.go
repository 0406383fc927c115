package settle_test

import (
	"fmt"
	"math/rand/v2"
	"slices"
	"testing"

	"sccsettle/api"
	"sccsettle/eval"
	"sccsettle/formula"
	"sccsettle/refs"
	"sccsettle/settle"
	"sccsettle/value"
)

// judge works out what it is asked for, and whatever that needs first: it has no order of parts.
type judge struct {
	t     *testing.T
	l     []api.Filled
	nodes map[api.Cell]api.Node
	on    map[api.Cell][]api.Cell
	done  map[api.Cell]api.Shown
	count int
}

func judgeOf(t *testing.T, l []api.Filled) *judge {
	j := &judge{t: t, l: l, nodes: map[api.Cell]api.Node{}, on: map[api.Cell][]api.Cell{}, done: map[api.Cell]api.Shown{}}
	for _, f := range l {
		if f.Text[0] != '=' {
			continue
		}
		n, _, err := formula.Parse(f.Text)
		if err != nil {
			t.Fatalf("Parse(%q): %v", f.Text, err)
		}
		j.nodes[f.Cell] = n
		j.on[f.Cell], _ = refs.Of(n)
	}
	return j
}

// comesTo: is there a way from a cell to another one, of a step at least?
func (j *judge) comesTo(from, to api.Cell, been map[api.Cell]bool) bool {
	for _, c := range j.on[from] {
		if c == to {
			return true
		}
		if !been[c] {
			been[c] = true
			if j.comesTo(c, to, been) {
				return true
			}
		}
	}
	return false
}

func (j *judge) comes(from, to api.Cell) bool { return j.comesTo(from, to, map[api.Cell]bool{}) }

// mates of a cell in its circle, as they stand; none, if it is in none.
func (j *judge) mates(c api.Cell) (mates []api.Cell) {
	for _, f := range j.l {
		if j.comes(c, f.Cell) && j.comes(f.Cell, c) {
			mates = append(mates, f.Cell)
		}
	}
	return mates
}

func (j *judge) eval(c api.Cell) api.Value {
	var known []api.Shown
	for _, s := range j.done {
		known = append(known, s)
	}
	v, err := eval.Eval(j.nodes[c], known)
	if err != nil {
		j.t.Fatalf("Eval of %v: %v", c, err)
	}
	j.count++
	return v
}

// need works out a cell and, ahead of it, all it hangs on.
func (j *judge) need(f api.Filled) {
	if _, is := j.done[f.Cell]; is {
		return
	}
	mates := j.mates(f.Cell)
	for _, other := range j.l {
		if j.comes(f.Cell, other.Cell) && !slices.Contains(mates, other.Cell) {
			j.need(other)
		}
	}
	switch _, is := j.nodes[f.Cell]; {
	case !is:
		j.done[f.Cell] = api.Shown{Cell: f.Cell, Value: value.Read(f.Text)}
	case mates == nil:
		j.done[f.Cell] = api.Shown{Cell: f.Cell, Value: j.eval(f.Cell)}
	default:
		j.goRound(mates)
	}
}

// goRound holds whole rounds against each other, as they are shown in Go.
func (j *judge) goRound(mates []api.Cell) {
	var ahead string
	for _, c := range mates {
		ahead += fmt.Sprintf("%#v", api.Value{})
		j.done[c] = api.Shown{Cell: c}
	}
	state, n := api.Stopped, 0
	for n < 20 && state == api.Stopped {
		n++
		var now string
		for _, c := range mates {
			j.done[c] = api.Shown{Cell: c, Value: j.eval(c)}
			now += fmt.Sprintf("%#v", j.done[c].Value)
		}
		if now == ahead {
			state = api.Settled
		}
		ahead = now
	}
	for _, c := range mates {
		j.done[c] = api.Shown{Cell: c, Value: j.done[c].Value, State: state, Round: n}
	}
}

// drawer draws sheets of cells that lie close together, so that circles are many.
type drawer struct{ *rand.Rand }

func (d drawer) of(l ...string) string { return l[d.IntN(len(l))] }

func (d drawer) cell() string { return d.of("A", "B", "C", "D") + d.of("1", "2", "3", "4") }

func (d drawer) atom() string {
	if d.IntN(3) > 0 {
		return d.cell()
	}
	return d.of("0", "1", "2", "TRUE", `"x"`, "#DIV!")
}

func (d drawer) term() string {
	a, b := d.atom(), d.atom()
	switch d.IntN(12) {
	case 0:
		return "MIN(" + a + "+1," + d.of("2", "3", "18", "19", "20", "21") + ")"
	case 1:
		return "NOT(" + a + ")"
	case 2:
		return "IF(" + a + "," + b + "," + d.atom() + ")"
	case 3:
		return "IFBAD(" + a + "," + b + ")"
	case 4:
		return d.of("SUM", "MAX", "COUNTA", "AVG", "CAT", "OR", "ROWS") + "(" + d.cell() + ":" + d.cell() + ")"
	case 5:
		return d.of("BLANKP", "NUMP", "BADP", "LEN", "ABS") + "(" + a + ")"
	case 6:
		return "LEFT(" + a + "&" + b + "," + d.of("1", "2", "9") + ")"
	case 7:
		return "(" + a + d.of("+", "-", "*", "/", "&", "=", "<") + b + ")"
	}
	return a
}

func (d drawer) text() string {
	switch d.IntN(8) {
	case 0:
		return d.of("1", "-2", "x", "TRUE", "#NUM!", "9223372036854775807")
	case 1:
		return "=" + d.term() + d.of("+", "&", "-") + d.term()
	}
	return "=" + d.term()
}

func (d drawer) sheet() (l []api.Filled) {
	often := d.IntN(5) + 1
	for row := 1; row <= 4; row++ {
		for col := 1; col <= 4; col++ {
			if d.IntN(6) < often {
				l = append(l, api.Filled{Cell: api.Cell{Col: col, Row: row}, Text: d.text()})
			}
		}
	}
	return l
}

func TestJudged(t *testing.T) {
	d := drawer{rand.New(rand.NewPCG(7, 7))}
	states := [3]int{}
	for range 8000 {
		l := d.sheet()
		j := judgeOf(t, l)
		var want []api.Shown
		for _, f := range l {
			j.need(f)
			want = append(want, j.done[f.Cell])
			states[j.done[f.Cell].State]++
		}
		all, err := settle.All(l)
		if err != nil || !slices.Equal(all, want) {
			t.Fatalf("All(%v): %s, %v; want %s", l, toldAll(all), err, toldAll(want))
		}
		if count, err := settle.Count(l); err != nil || count != j.count {
			t.Fatalf("Count(%v): %d, %v; want %d", l, count, err, j.count)
		}
	}
	for state, many := range states {
		if many < 1000 {
			t.Errorf("only %d cells are of state %d", many, state)
		}
	}
}
