package merge_test

import (
	"math/rand/v2"
	"slices"
	"strings"
	"testing"

	"sccsettle/api"
	"sccsettle/merge"
	"sccsettle/plain"
)

// textOf looks a cell up, from the first one of a list on.
func textOf(l []api.Filled, c api.Cell) string {
	for _, f := range l {
		if f.Cell == c {
			return f.Text
		}
	}
	return ""
}

// all asks what there is of each cell that there can be, as they stand, and leaves out those of which there is nothing.
func all(there func(c api.Cell) (string, bool)) (l []api.Filled) {
	for row := 1; row <= 99; row++ {
		for col := 1; col <= 26; col++ {
			c := api.Cell{Col: col, Row: row}
			if text, is := there(c); is {
				l = append(l, api.Filled{Cell: c, Text: text})
			}
		}
	}
	return l
}

func differ(a, b []api.Filled) []api.Filled {
	return all(func(c api.Cell) (string, bool) { return textOf(b, c), textOf(a, c) != textOf(b, c) })
}

// done does texts one by one, as they come.
func done(l, d []api.Filled) []api.Filled {
	for _, f := range d {
		l = all(func(c api.Cell) (string, bool) {
			if c == f.Cell {
				return f.Text, f.Text != ""
			}
			text := textOf(l, c)
			return text, text != ""
		})
	}
	return l
}

// joined does what made a of the base behind what made b of it; told are the cells of both that are not alike then.
func joined(base, a, b []api.Filled) (l []api.Filled, told []api.Cell) {
	mine, other := differ(base, a), differ(base, b)
	for _, f := range mine {
		for _, g := range other {
			if f.Cell == g.Cell && f.Text != g.Text {
				told = append(told, f.Cell)
			}
		}
	}
	return done(done(base, other), mine), told
}

type drawer struct {
	*rand.Rand
	wide, high int
}

func (d drawer) text() string {
	l := []string{"1", "2", "x", "=A1", "=B1+A2", "= A1", "\x00", "a\nb", " "}
	return l[d.IntN(len(l))]
}

// sheet has some cells of a box from A1 on.
func (d drawer) sheet(most int) (l []api.Filled) {
	cells := d.Perm(d.wide * d.high)
	cells = cells[:d.IntN(min(most, len(cells))+1)]
	slices.Sort(cells)
	for _, i := range cells {
		l = append(l, api.Filled{Cell: api.Cell{Col: i%d.wide + 1, Row: i/d.wide + 1}, Text: d.text()})
	}
	return l
}

// texts are those of a sheet, some of them empty.
func (d drawer) texts(most int) []api.Filled {
	l := d.sheet(most)
	for i := range l {
		if d.IntN(3) == 0 {
			l[i].Text = ""
		}
	}
	return l
}

// changed is a sheet that a hand was at.
func (d drawer) changed(l []api.Filled, most int) []api.Filled {
	next := done(l, d.texts(most))
	return next[:min(len(next), api.MaxCells)]
}

// holdAll holds sheets, and texts for the base, against the judge; it tells of how many cells Three told.
func holdAll(t *testing.T, base, a, b, texts []api.Filled) int {
	t.Helper()
	wantDiff(t, base, a, differ(base, a))
	wantDiff(t, a, b, differ(a, b))
	if next := done(base, texts); len(next) <= api.MaxCells {
		wantApplied(t, base, texts, next)
	} else {
		refuseApply(t, base, texts, api.ErrFull)
	}
	l, told := joined(base, a, b)
	if len(l) > api.MaxCells {
		refuseThree(t, base, a, b, api.ErrFull)
		return 0
	}
	wantThree(t, base, a, b, l, named(told))
	// By turns the same cells are told, and it is the text of the other hand that they have.
	other, _ := joined(base, b, a)
	wantThree(t, base, b, a, other, named(told))
	for _, f := range differ(l, other) {
		if !slices.Contains(told, f.Cell) {
			t.Errorf("Three of %q, %q, %q is another one by turns at %v, which was not told", listed(base), listed(a), listed(b), f.Cell)
		}
	}
	return len(told)
}

// TestM1Judged holds drawn sheets of few cells, so that hands meet often, against the judge.
func TestM1Judged(t *testing.T) {
	d := drawer{rand.New(rand.NewPCG(18, 1)), 3, 3}
	met, apart := 0, 0
	for range 400 {
		base := d.sheet(9)
		a, b := d.changed(base, 5), d.changed(base, 5)
		if holdAll(t, base, a, b, d.texts(9)) > 0 {
			met++
		} else {
			apart++
		}
		if t.Failed() {
			return
		}
	}
	if min(met, apart) < 80 {
		t.Errorf("hands met %d times, and did not %d times", met, apart)
	}
}

// TestM1JudgedWide holds sheets of cells from everywhere against the judge, some of them nearly full.
func TestM1JudgedWide(t *testing.T) {
	d := drawer{rand.New(rand.NewPCG(18, 2)), 26, 99}
	fulls := 0
	for i := range 12 {
		base := d.sheet(api.MaxCells)
		if i%2 == 0 {
			base = full("1")[d.IntN(20):]
		}
		a, b := d.changed(base, 20), d.changed(base, 20)
		holdAll(t, base, a, b, d.texts(30))
		if l, _ := joined(base, a, b); len(l) > api.MaxCells {
			fulls++
		}
		if t.Failed() {
			return
		}
	}
	if fulls == 0 || fulls == 12 {
		t.Errorf("%d sheets of 12 had too many cells", fulls)
	}
}

// TestM1Laws: what is true of any sheets, without a judge.
func TestM1Laws(t *testing.T) {
	d := drawer{rand.New(rand.NewPCG(18, 3)), 4, 4}
	for range 3000 {
		base, a := d.sheet(16), d.sheet(16)
		wantDiff(t, a, a, nil)
		wantDiff(t, nil, a, a)
		wantThree(t, base, a, base, a, "")
		wantThree(t, base, base, a, a, "")
		wantThree(t, base, a, a, a, "")
		d1, err := merge.Diff(base, a)
		wantApplied(t, a, d1, a)
		if plain.Told(err) != api.OK {
			t.Fatal(err)
		}
		back, err := merge.Diff(a, base)
		if err != nil || len(back) != len(d1) {
			t.Fatalf("Diff of %q, %q: %q, and back: %q, %v", listed(base), listed(a), listed(d1), listed(back), err)
		}
		if t.Failed() {
			return
		}
	}
}

// TestM1Faulty: drawn lists with one fault, at any place of any argument.
func TestM1Faulty(t *testing.T) {
	d := drawer{rand.New(rand.NewPCG(18, 4)), 5, 5}
	for range 2000 {
		l := append(d.sheet(20), filled("Z50 1; Z60 =A1")...)
		i := 1 + d.IntN(len(l)-1)
		want := api.OK
		switch d.IntN(4) {
		case 0:
			l[i].Cell.Col, want = 27+d.IntN(3), api.ErrRange
		case 1:
			l[i].Cell, want = l[d.IntN(i)].Cell, api.ErrOrder
		case 2:
			l[i].Text, want = strings.Repeat("x", api.MaxText+1+d.IntN(3)), api.ErrFull
		case 3:
			l[i].Text, want = "=)", api.ErrSyntax
		}
		good := d.sheet(25)
		refuseDiff(t, l, good, want)
		refuseDiff(t, good, l, want)
		refuseApply(t, l, good, want)
		refuseApply(t, good, l, want)
		refuseThree(t, l, good, good, want)
		refuseThree(t, good, l, good, want)
		refuseThree(t, good, good, l, want)
	}
}
