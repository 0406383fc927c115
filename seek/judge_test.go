package seek_test

import (
	"math/rand/v2"
	"slices"
	"strconv"
	"testing"

	"sccsettle/api"
	"sccsettle/seek"
	"sccsettle/settle"
)

// comes works out a whole sheet anew, in which a number stands in a cell, and looks another one up.
func comes(t *testing.T, l []api.Filled, by api.Cell, n int, goal api.Cell) (v api.Value) {
	t.Helper()
	next := slices.DeleteFunc(slices.Clone(l), func(f api.Filled) bool { return f.Cell == by })
	next = append(next, api.Filled{Cell: by, Text: strconv.Itoa(n)})
	slices.SortFunc(next, func(a, b api.Filled) int { return (a.Cell.Row-b.Cell.Row)*100 + a.Cell.Col - b.Cell.Col })
	all, err := settle.All(next)
	if err != nil {
		t.Fatalf("All of %s: %v", listed(next), err)
	}
	for _, shown := range all {
		if shown.Cell == goal {
			v = shown.Value
		}
	}
	return v
}

// judge has what the goal comes to with some numbers, as they are told.
type judge struct {
	numbers []int
	values  []api.Value
}

func judgeOf(t *testing.T, l []api.Filled, by api.Cell, numbers []int, goal api.Cell) judge {
	t.Helper()
	j := judge{numbers: numbers}
	for _, n := range numbers {
		j.values = append(j.values, comes(t, l, by, n, goal))
	}
	return j
}

// seek is the first number with which the goal is shown as a number is, and is one.
func (j judge) seek(want int) (int, bool) {
	for i, v := range j.values {
		if seen(v) == strconv.Itoa(want) {
			return j.numbers[i], true
		}
	}
	return 0, false
}

// most goes from the end on, so that the least number comes last.
func (j judge) most() (n, most int, found bool) {
	for i := len(j.values) - 1; i >= 0; i-- {
		if v := j.values[i]; v.Kind == api.Number && (!found || most <= v.Num) {
			n, most, found = j.numbers[i], v.Num, true
		}
	}
	return n, most, found
}

// wants are numbers that the goal comes to, and some that it may not come to.
func (j judge) wants() []int {
	wants := []int{0, 1, 7}
	for _, v := range j.values {
		if v.Kind == api.Number && -1000 < v.Num && v.Num < 1000 {
			wants = append(wants, v.Num)
		}
	}
	return wants
}

// drawer draws sheets of cells that lie close together, so that circles are many.
type drawer struct{ *rand.Rand }

func (d drawer) of(l ...string) string { return l[d.IntN(len(l))] }

func (d drawer) cell() string { return d.of("A", "B", "C") + d.of("1", "2", "3") }

func (d drawer) formula() string {
	a, b := d.cell(), d.cell()
	switch d.IntN(14) {
	case 0:
		return "=MIN(" + a + "+1," + b + ")"
	case 1:
		return "=" + d.of("NOT", "BLANKP", "NUMP", "BADP", "LEN", "SIGN", "ABS") + "(" + a + ")"
	case 2:
		return "=IF(" + a + ">" + d.of("0", "3", "-2") + "," + b + "," + d.cell() + ")"
	case 3:
		return "=IFBAD(" + a + "," + b + ")"
	case 4, 5:
		return "=" + d.of("SUM", "MAX", "MIN", "COUNTA", "COUNT", "CAT") + "(" + a + ":" + b + ")"
	case 6:
		return "=" + a + "*" + d.of("0", "2", "-1", a)
	case 7:
		return "=" + d.of("12/", "9-", "-") + a
	case 8:
		return "=LEFT(" + a + "," + d.of("1", "2") + ")"
	}
	return "=" + a + d.of("+", "+", "-", "*", "/", "&", "=", "<") + b
}

func (d drawer) sheet() (l []api.Filled) {
	often := 1 + d.IntN(6)
	for row := 1; row <= 3; row++ {
		for col := 1; col <= 3; col++ {
			text := d.formula()
			if d.IntN(4) == 0 {
				text = d.of("1", "2", "-3", "x", "TRUE", "#DIV!", "10")
			}
			if d.IntN(6) < often {
				l = append(l, api.Filled{Cell: api.Cell{Col: col, Row: row}, Text: text})
			}
		}
	}
	return l
}

func (d drawer) span() (low int, numbers []int) {
	low = d.IntN(14) - 9
	for i := range 1 + d.IntN(12) {
		numbers = append(numbers, low+i)
	}
	return low, numbers
}

// counts are how often Seek and Most told a number, and how often none.
type counts struct{ sought, unsought, most, none int }

func holdSeek(t *testing.T, l []api.Filled, by string, j judge, goal string, c *counts) {
	t.Helper()
	low, high := j.numbers[0], j.numbers[len(j.numbers)-1]
	for _, want := range j.wants() {
		if n, is := j.seek(want); is {
			wantSeek(t, l, asked{"", by, low, high, goal, want, n})
			c.sought++
		} else {
			refuseSeek(t, l, at(by), low, high, at(goal), want, api.ErrNone)
			c.unsought++
		}
	}
	if n, most, is := j.most(); is {
		wantMost(t, l, by, low, high, goal, n, most)
		c.most++
	} else {
		refuseMost(t, l, at(by), low, high, at(goal), api.ErrNone)
		c.none++
	}
}

// TestK1Judged holds all three, of drawn sheets, against the judge.
func TestK1Judged(t *testing.T) {
	d := drawer{rand.New(rand.NewPCG(19, 1))}
	var c counts
	for range 3000 {
		l, by, goal := d.sheet(), d.cell(), d.cell()
		low, numbers := d.span()
		j := judgeOf(t, l, at(by), numbers, at(goal))
		wantTable(t, l, by, low, 1, len(numbers), goal, seenAll(j.values))
		holdSeek(t, l, by, j, goal, &c)
		slices.Reverse(j.values)
		wantTable(t, l, by, numbers[len(numbers)-1], -1, len(numbers), goal, seenAll(j.values))
		if t.Failed() {
			return
		}
	}
	if min(c.sought, c.unsought, c.most, c.none) < 500 {
		t.Errorf("seldom told: %+v", c)
	}
}

// TestK1JudgedApart holds Tables of numbers that lie apart against the judge.
func TestK1JudgedApart(t *testing.T) {
	d := drawer{rand.New(rand.NewPCG(19, 2))}
	for range 1000 {
		l, by, goal := d.sheet(), d.cell(), d.cell()
		from, step := d.IntN(2_000_000_001)-1_000_000_000, d.IntN(2_000_000_001)-1_000_000_000
		var numbers []int
		for i := range d.IntN(9) {
			numbers = append(numbers, from+i*step)
		}
		wantTable(t, l, by, from, step, len(numbers), goal, seenAll(judgeOf(t, l, at(by), numbers, at(goal)).values))
		if t.Failed() {
			return
		}
	}
}

// TestK1Alike: what is asked twice, or of a sheet in which any number stands there already, is answered alike.
func TestK1Alike(t *testing.T) {
	d := drawer{rand.New(rand.NewPCG(19, 3))}
	for range 500 {
		l, by, goal := d.sheet(), at(d.cell()), at(d.cell())
		one, err := seek.Table(l, by, -9, 1, 20, goal)
		if err != nil {
			t.Fatalf("Table of %s: %v", listed(l), err)
		}
		two, _ := seek.Table(l, by, -9, 1, 20, goal)
		place := slices.IndexFunc(l, func(f api.Filled) bool { return f.Cell == by })
		if place >= 0 {
			l[place].Text = "77"
		}
		three, _ := seek.Table(l, by, -9, 1, 20, goal)
		if !slices.Equal(one, two) || !slices.Equal(one, three) {
			t.Fatalf("Table of %s, %v, %v: %s; %s; %s", listed(l), by, goal, seenAll(one), seenAll(two), seenAll(three))
		}
	}
}
