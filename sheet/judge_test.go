package sheet_test

import (
	"cmp"
	"math/rand/v2"
	"slices"
	"testing"

	"sccsettle/api"
	"sccsettle/formula"
	"sccsettle/plain"
	"sccsettle/refs"
	"sccsettle/settle"
	"sccsettle/sheet"
)

// judge works out the whole sheet for every Set, and asks of each part by the values of then whether it had to be.
type judge struct {
	t       *testing.T
	texts   map[api.Cell]string
	shown   map[api.Cell]api.Shown
	asked   map[api.Cell]api.Shown // when Changed was asked last
	work    int
	because [3]int // how often a part was worked out for each of H2's three reasons, and for none that stands ahead of it
}

func judgeOf(t *testing.T) *judge {
	return &judge{t: t, texts: map[api.Cell]string{}}
}

func (j *judge) list() (l []api.Filled) {
	for row := 1; row <= api.MaxRow; row++ {
		for col := 1; col <= api.MaxCol; col++ {
			c := api.Cell{Col: col, Row: row}
			if text, is := j.texts[c]; is {
				l = append(l, api.Filled{Cell: c, Text: text})
			}
		}
	}
	return l
}

func (j *judge) all() []api.Shown {
	all, err := settle.All(j.list())
	if err != nil {
		j.t.Fatalf("settle.All(%v): %v", j.list(), err)
	}
	return all
}

// looks of all cells of the sheet, by their texts alone.
func (j *judge) looks() map[api.Cell][]api.Cell {
	looks := map[api.Cell][]api.Cell{}
	for c, text := range j.texts {
		if n, _, err := formula.Parse(text); err == nil {
			looks[c], _ = refs.Of(n)
		}
	}
	return looks
}

func comes(looks map[api.Cell][]api.Cell, from, to api.Cell, been map[api.Cell]bool) bool {
	for _, c := range looks[from] {
		if c == to {
			return true
		}
		if !been[c] {
			been[c] = true
			if comes(looks, c, to, been) {
				return true
			}
		}
	}
	return false
}

// part of a cell: itself, and all that it comes to hang on and that come to hang on it.
func (j *judge) part(looks map[api.Cell][]api.Cell, c api.Cell) (part []api.Cell) {
	for _, f := range j.list() {
		to := comes(looks, c, f.Cell, map[api.Cell]bool{})
		from := comes(looks, f.Cell, c, map[api.Cell]bool{})
		if f.Cell == c || to && from {
			part = append(part, f.Cell)
		}
	}
	return part
}

// set is only asked for what is to be taken.
func (j *judge) set(c api.Cell, text string) {
	was := j.part(j.looks(), c)
	ahead := j.shown
	delete(j.texts, c)
	if text != "" {
		j.texts[c] = text
	}
	j.shown = map[api.Cell]api.Shown{}
	for _, s := range j.all() {
		j.shown[s.Cell] = s
	}
	looks := j.looks()
	for at := range j.texts {
		part := j.part(looks, at)
		if part[0] != at {
			continue // each part once, for its first cell
		}
		if why := j.reason(part, c, was, looks, ahead); why >= 0 {
			j.because[why]++
			j.work += j.cost(part)
		}
	}
}

func (j *judge) reason(part []api.Cell, c api.Cell, was []api.Cell, looks map[api.Cell][]api.Cell, ahead map[api.Cell]api.Shown) int {
	if slices.Contains(part, c) {
		return 0
	}
	for _, of := range part {
		if slices.Contains(was, of) {
			return 1
		}
	}
	for _, of := range part {
		for _, on := range looks[of] {
			if !slices.Contains(part, on) && j.shown[on].Value != ahead[on].Value {
				return 2
			}
		}
	}
	return -1
}

// cost as chapter 7 counts it.
func (j *judge) cost(part []api.Cell) (cost int) {
	for _, c := range part {
		if j.texts[c][0] == '=' {
			cost += max(1, j.shown[c].Round)
		}
	}
	return cost
}

func (j *judge) changed() (cells []api.Cell) {
	for row := 1; row <= api.MaxRow; row++ {
		for col := 1; col <= api.MaxCol; col++ {
			c := api.Cell{Col: col, Row: row}
			now, then := j.shown[c], j.asked[c]
			now.Cell, then.Cell = c, c
			if now != then {
				cells = append(cells, c)
			}
		}
	}
	j.asked = j.shown
	return cells
}

// drawer draws texts of cells that lie close together, so that circles are many, and values that often stay as they were.
type drawer struct{ *rand.Rand }

func (d drawer) of(l ...string) string { return l[d.IntN(len(l))] }

func (d drawer) cell() string { return d.of("A", "B", "C", "D") + d.of("1", "2", "3") }

func (d drawer) formula() string {
	a, b := d.cell(), d.cell()
	switch d.IntN(14) {
	case 0:
		return "=MIN(" + a + "+1," + d.of("2", "3", "19", "20") + ")"
	case 1:
		return "=NOT(" + a + ")"
	case 2:
		return "=IF(" + a + "," + b + "," + d.cell() + ")"
	case 3:
		return "=IFBAD(" + a + "," + b + ")"
	case 4, 5:
		return "=" + d.of("SUM", "MAX", "COUNTA", "CAT", "ROWS") + "(" + a + ":" + b + ")"
	case 6:
		return "=" + a + "*0"
	case 7:
		return "=" + d.of("BLANKP", "NUMP", "BADP", "LEN", "SIGN") + "(" + a + ")"
	case 8:
		return "=" + a + d.of("+", "-", "/", "&", "=") + b
	case 9:
		return d.of("=1", "=0", "=2/0", `="1"`)
	}
	return "=" + a
}

func (d drawer) text() string {
	switch d.IntN(10) {
	case 0, 1:
		return ""
	case 2, 3:
		return d.of("0", "1", "2", "x", "TRUE", "#DIV!")
	case 4:
		return d.of("=", "=(1", "=a")
	}
	return d.formula()
}

// TestJudged holds runs of Sets against the judge, Set by Set.
func TestJudged(t *testing.T) {
	d := drawer{rand.New(rand.NewPCG(8, 8))}
	var because [3]int
	for range 250 {
		s, j := sheet.New(), judgeOf(t)
		for range 5 + d.IntN(40) {
			judgeSet(t, d, s, j)
		}
		for i := range because {
			because[i] += j.because[i]
		}
	}
	if slices.Min(because[:]) < 200 {
		t.Errorf("parts were worked out for the three reasons only %v times", because)
	}
}

func judgeSet(t *testing.T, d drawer, s *sheet.Sheet, j *judge) {
	t.Helper()
	before := listed(j.list())
	name, text := d.cell(), d.text()
	err := s.Set(at(name), text)
	_, _, wrong := formula.Parse(text)
	if text != "" && text[0] == '=' && wrong != nil {
		if plain.Told(err) != api.ErrSyntax {
			t.Fatalf("Set(%s, %q) at %s: %v", name, text, before, err)
		}
	} else if err != nil {
		t.Fatalf("Set(%s, %q) at %s: %v", name, text, before, err)
	} else {
		j.set(at(name), text)
	}
	if got, want := s.List(), j.list(); !slices.Equal(got, want) {
		t.Fatalf("List behind Set(%s, %q) at %s: %s", name, text, before, listed(got))
	}
	if got, want := s.All(), j.all(); !slices.Equal(got, want) {
		t.Fatalf("All behind Set(%s, %q) at %s: %s; want %s", name, text, before, toldAll(got), toldAll(want))
	}
	one := at(d.cell())
	want := cmp.Or(j.shown[one], api.Shown{Cell: one})
	if got, err := s.Shown(one); err != nil || got != want {
		t.Fatalf("Shown(%v) behind Set(%s, %q) at %s: %v, %v; want %v", one, name, text, before, got, err, want)
	}
	// Not asked each time, so that what is told is of several Sets.
	if d.IntN(3) > 0 {
		if got := s.Work(); got != j.work {
			t.Fatalf("Work behind Set(%s, %q) at %s: %d; want %d", name, text, before, got, j.work)
		}
		j.work = 0
	}
	if d.IntN(3) == 0 {
		if got, want := s.Changed(), j.changed(); !slices.Equal(got, want) {
			t.Fatalf("Changed behind Set(%s, %q) at %s: %s; want %s", name, text, before, names(got), names(want))
		}
	}
}
