package past_test

import (
	"maps"
	"math/rand/v2"
	"slices"
	"strings"
	"testing"

	"sccsettle/api"
	"sccsettle/formula"
	"sccsettle/past"
	"sccsettle/plain"
)

// judge keeps each sheet that there was, whole, and does a group text by text.
type judge struct {
	been    []map[api.Cell]string
	at      int
	crowded int // how often there were too many cells
}

func (j *judge) now() map[api.Cell]string { return j.been[j.at] }

func (j *judge) list() (l []api.Filled) {
	for row := 1; row <= api.MaxRow; row++ {
		for col := 1; col <= api.MaxCol; col++ {
			c := api.Cell{Col: col, Row: row}
			if text, is := j.now()[c]; is {
				l = append(l, api.Filled{Cell: c, Text: text})
			}
		}
	}
	return l
}

func (j *judge) group(l []api.Filled) api.Errno {
	next := maps.Clone(j.now())
	for _, f := range l {
		if f.Cell.Col < 1 || f.Cell.Col > 26 || f.Cell.Row < 1 || f.Cell.Row > 99 {
			return api.ErrRange
		}
		if len(f.Text) > 200 {
			return api.ErrFull
		}
		if _, _, err := formula.Parse(f.Text); strings.HasPrefix(f.Text, "=") && err != nil {
			return api.ErrSyntax
		}
		delete(next, f.Cell)
		if f.Text != "" {
			next[f.Cell] = f.Text
		}
	}
	if len(next) > 200 {
		j.crowded++
		return api.ErrFull
	}
	if !maps.Equal(next, j.now()) {
		j.been = append(slices.Clone(j.been[:j.at+1]), next)
		j.at++
	}
	return api.OK
}

func (j *judge) move(by int) bool {
	if j.at+by < 0 || j.at+by >= len(j.been) {
		return false
	}
	j.at += by
	return true
}

// drawer draws cells of a box from A1 on, and few texts, so that many stand there already.
type drawer struct {
	*rand.Rand
	wide, high int
}

func (d drawer) cell() api.Cell {
	if d.IntN(30) == 0 {
		return api.Cell{Col: d.IntN(3) * 13, Row: d.IntN(3) * 50}
	}
	return api.Cell{Col: 1 + d.IntN(d.wide), Row: 1 + d.IntN(d.high)}
}

func (d drawer) text() string {
	if d.IntN(20) == 0 {
		return []string{"=", "=A0", strings.Repeat("y", 201), strings.Repeat("z", 200)}[d.IntN(4)]
	}
	return []string{"", "", "1", "2", "=A1", "=SUM(A1:B2)", "x"}[d.IntN(7)]
}

func (d drawer) group() (l []api.Filled) {
	for range d.IntN(9) {
		l = append(l, api.Filled{Cell: d.cell(), Text: d.text()})
	}
	return l
}

// start is a sheet that lacks some cells of its box, the last ones of which are more than there may be.
func (d drawer) start() (l []api.Filled) {
	for row := 1; row <= d.high; row++ {
		for col := 1; col <= d.wide; col++ {
			if len(l) < 200 && d.IntN(20) > 0 {
				l = append(l, api.Filled{Cell: api.Cell{Col: col, Row: row}, Text: "1"})
			}
		}
	}
	return l
}

// TestJudged holds drawn runs against the judge, call by call; some sheets are small, and some are nearly full.
func TestJudged(t *testing.T) {
	r := rand.New(rand.NewPCG(9, 9))
	told := map[api.Errno]int{}
	crowded := 0
	for i := range 300 {
		d := drawer{r, 2, 2}
		if i%3 == 0 {
			d = drawer{r, 20, 15}
		}
		crowded += judgeRun(t, d, told)
	}
	if crowded < 50 {
		t.Errorf("there were too many cells only %d times", crowded)
	}
	for _, err := range []api.Errno{api.OK, api.ErrRange, api.ErrFull, api.ErrSyntax} {
		if told[err] < 200 {
			t.Errorf("%v was told only %d times", err, told[err])
		}
	}
}

func judgeRun(t *testing.T, d drawer, told map[api.Errno]int) (crowded int) {
	t.Helper()
	l := d.start()
	p, err := past.New(l)
	if err != nil {
		t.Fatalf("New(%s): %v", listed(l), err)
	}
	first := map[api.Cell]string{}
	for _, f := range l {
		first[f.Cell] = f.Text
	}
	j := &judge{been: []map[api.Cell]string{first}}
	for range 10 + d.IntN(90) {
		judgeCall(t, d, p, j, told)
		back, on := p.Depth()
		if back != j.at || on != len(j.been)-1-j.at {
			t.Fatalf("Depth %d, %d; want %d, %d", back, on, j.at, len(j.been)-1-j.at)
		}
		if got := p.Now(); !slices.Equal(got, j.list()) {
			t.Fatalf("Now: %s; want %s", listed(got), listed(j.list()))
		}
	}
	return j.crowded
}

func judgeCall(t *testing.T, d drawer, p *past.Past, j *judge, told map[api.Errno]int) {
	t.Helper()
	switch d.IntN(8) {
	case 0, 1:
		if got, want := p.Undo(), j.move(-1); got != want {
			t.Fatalf("Undo: %v", got)
		}
	case 2:
		if got, want := p.Redo(), j.move(1); got != want {
			t.Fatalf("Redo: %v", got)
		}
	case 3, 4:
		l := d.group()
		want := j.group(l)
		told[want]++
		if err := p.Group(l); plain.Told(err) != want {
			t.Fatalf("Group(%v): %v; want %v", l, err, want)
		}
	default:
		c, text := d.cell(), d.text()
		want := j.group([]api.Filled{{Cell: c, Text: text}})
		told[want]++
		if err := p.Set(c, text); plain.Told(err) != want {
			t.Fatalf("Set(%v, %q): %v; want %v", c, text, err, want)
		}
	}
}
