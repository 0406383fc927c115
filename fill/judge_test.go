package fill_test

import (
	"fmt"
	"math/rand/v2"
	"regexp"
	"slices"
	"strings"
	"testing"

	"sccsettle/api"
	"sccsettle/fill"
	"sccsettle/plain"
)

const lost = "#REF!"

// drawnText is a text as it stands in a cell, and, of a formula, as it is printed; a constant has none of that.
type drawnText struct{ stands, printed string }

// judge has a sheet as texts. It asks of each cell there is where its text comes from, and changes formulas as texts.
type judge map[api.Cell]drawnText

// everyCell: from where its text is taken (from no cell: it is blank), and what becomes of that.
func (j judge) everyCell(take func(c api.Cell) (api.Cell, func(spot) spot)) (judge, api.Errno) {
	next := judge{}
	for row := 1; row <= 99; row++ {
		for col := 1; col <= 26; col++ {
			source, change := take(api.Cell{Col: col, Row: row})
			text, filled := j[source]
			if !filled {
				continue
			}
			if printed := rewritten(text.printed, change); printed != text.printed {
				text = drawnText{printed, printed}
			}
			if len(text.stands) > 200 {
				return nil, api.ErrFull
			}
			next[api.Cell{Col: col, Row: row}] = text
		}
	}
	if len(next) > 200 {
		return nil, api.ErrFull
	}
	return next, api.OK
}

// spot is a ref as it is written: its numbers, and the `$` ahead of each; and the other corner of a box, else itself.
type spot struct {
	api.Cell
	fixCol, fixRow string
	other          api.Cell
}

func (s spot) String() string { return fmt.Sprintf("%s%c%s%d", s.fixCol, 'A'+s.Col-1, s.fixRow, s.Row) }

func (s spot) is() bool { return s.Col >= 1 && s.Col <= 26 && s.Row >= 1 && s.Row <= 99 }

func stays(s spot) spot { return s }

func moved(cols, rows int) func(spot) spot {
	return func(s spot) spot {
		if s.fixCol == "" {
			s.Col += cols
		}
		if s.fixRow == "" {
			s.Row += rows
		}
		return s
	}
}

func follows(from api.Box, cols, rows int) func(spot) spot {
	return func(s spot) spot {
		if inside(s.Cell, from) && inside(s.other, from) {
			s.Col += cols
			s.Row += rows
		}
		return s
	}
}

// inRef: a text in quotes, or a ref, or a box; texts are taken, too, so that nothing in them is.
var inRef = regexp.MustCompile(`"[^"]*"|(\$?)([A-Z])(\$?)([0-9]+)(?::(\$?)([A-Z])(\$?)([0-9]+))?`)

func rewritten(text string, change func(spot) spot) string {
	return inRef.ReplaceAllStringFunc(text, func(piece string) string {
		m := inRef.FindStringSubmatch(piece)
		if m[2] == "" {
			return piece
		}
		a := spot{at(m[2] + m[4]), m[1], m[3], at(m[2] + m[4])}
		if m[6] == "" {
			return orLost(change(a))
		}
		b := spot{at(m[6] + m[8]), m[5], m[7], a.Cell}
		a.other = b.Cell
		return orLost(change(a), change(b))
	})
}

func orLost(spots ...spot) string {
	var corners []string
	for _, s := range spots {
		if !s.is() {
			return lost
		}
		corners = append(corners, s.String())
	}
	return strings.Join(corners, ":")
}

func back(c api.Cell, cols, rows int) api.Cell { return api.Cell{Col: c.Col - cols, Row: c.Row - rows} }

func (j judge) copied(from api.Box, to api.Cell) (judge, api.Errno) {
	cols, rows := to.Col-from.From.Col, to.Row-from.From.Row
	return j.everyCell(func(c api.Cell) (api.Cell, func(spot) spot) {
		if source := back(c, cols, rows); inside(source, from) {
			return source, moved(cols, rows)
		}
		return c, stays
	})
}

func (j judge) carried(from api.Box, to api.Cell) (judge, api.Errno) {
	cols, rows := to.Col-from.From.Col, to.Row-from.From.Row
	follow := follows(from, cols, rows)
	return j.everyCell(func(c api.Cell) (api.Cell, func(spot) spot) {
		if source := back(c, cols, rows); inside(source, from) {
			return source, follow
		}
		if inside(c, from) {
			return api.Cell{}, follow
		}
		return c, follow
	})
}

func (j judge) down(b api.Box) (judge, api.Errno) {
	return j.everyCell(func(c api.Cell) (api.Cell, func(spot) spot) {
		if inside(c, b) {
			return api.Cell{Col: c.Col, Row: b.From.Row}, moved(0, c.Row-b.From.Row)
		}
		return c, stays
	})
}

// list has the cells as they stand.
func (j judge) list() (l []api.Filled) {
	for c, text := range j {
		l = append(l, api.Filled{Cell: c, Text: text.stands})
	}
	slices.SortFunc(l, func(a, b api.Filled) int { return (a.Cell.Row-b.Cell.Row)*100 + a.Cell.Col - b.Cell.Col })
	return l
}

// drawer draws cells that lie close together, and sometimes at the edges.
type drawer struct{ *rand.Rand }

func (d drawer) cell() api.Cell {
	c := api.Cell{Col: 1 + d.IntN(6), Row: 1 + d.IntN(11)}
	if d.IntN(12) == 0 {
		c.Col += 20
	}
	if d.IntN(12) == 0 {
		c.Row += 88
	}
	return c
}

func (d drawer) ref() string {
	name := named(d.cell())
	return []string{"", "$"}[d.IntN(2)] + name[:1] + []string{"", "$"}[d.IntN(2)] + name[1:]
}

func (d drawer) term() string {
	return []string{`"A1:B2 $C3"`, "7", "-" + d.ref(), d.ref(), d.ref(), "SUM(" + d.ref() + ":" + d.ref() + "," + d.ref() + ")"}[d.IntN(6)]
}

// text is a constant, or a formula of some terms, or of as many as there is room for; it stands with blanks in it, if they have room, too.
func (d drawer) text() drawnText {
	if d.IntN(4) == 0 {
		return drawnText{stands: []string{"1", "x", " =A1", "A1:B2", "#REF!"}[d.IntN(5)]}
	}
	printed := "=" + d.term()
	for range []int{0, 1, 2, 0, 1, 40}[d.IntN(6)] {
		if term := "+" + d.term(); len(printed+term) <= 200 {
			printed += term
		}
	}
	loose := strings.ReplaceAll(printed, "+", " + ") + " "
	if len(loose) > 200 || d.IntN(2) == 0 {
		loose = printed
	}
	return drawnText{loose, printed}
}

// sheet is sometimes full, or nearly so.
func (d drawer) sheet() judge {
	j := judge{}
	for range d.IntN(12) {
		j[d.cell()] = d.text()
	}
	if d.IntN(3) > 0 {
		return j
	}
	many := 200 - d.IntN(6)
	for i := 0; len(j) < many; i++ {
		c := api.Cell{Col: 1 + i%26, Row: 1 + i/26}
		if _, filled := j[c]; !filled {
			j[c] = drawnText{stands: "x"}
		}
	}
	return j
}

// box is seldom none.
func (d drawer) box() api.Box {
	from := d.cell()
	to := api.Cell{Col: from.Col + d.IntN(5), Row: from.Row + d.IntN(6)}
	if d.IntN(12) == 0 {
		to = d.cell()
	}
	return api.Box{From: from, To: to}
}

func isBox(b api.Box) bool {
	return inside(b.From, box("A1:Z99")) && inside(b.To, box("A1:Z99")) && inside(b.From, b)
}

func holdJudged(t *testing.T, what string, got []api.Filled, err error, want judge, wrong api.Errno) {
	t.Helper()
	if plain.Told(err) != wrong || !slices.Equal(got, want.list()) {
		t.Fatalf("%s: %s, %v; want %s, %v", what, listed(got), err, listed(want.list()), wrong)
	}
}

// TestJudged holds all three, of drawn sheets, against the judge.
func TestJudged(t *testing.T) {
	d := drawer{rand.New(rand.NewPCG(11, 1))}
	told := map[string]int{}
	for range 5000 {
		j, b, to := d.sheet(), d.box(), d.cell()
		l := j.list()
		may := isBox(b)
		last := api.Cell{Col: to.Col + b.To.Col - b.From.Col, Row: to.Row + b.To.Row - b.From.Row}
		what := fmt.Sprint(listed(l), ": ", named(b.From), ":", named(b.To), " to ", named(to))
		want := map[string]func() (judge, api.Errno){
			"Copy":  func() (judge, api.Errno) { return j.copied(b, to) },
			"Carry": func() (judge, api.Errno) { return j.carried(b, to) },
			"Down":  func() (judge, api.Errno) { return j.down(b) },
		}
		for _, of := range calls {
			next, wrong := judge{}, api.ErrRange
			if may && (of.name == "Down" || inside(last, box("A1:Z99"))) {
				next, wrong = want[of.name]()
			}
			got, err := of.do(l, b, to)
			holdJudged(t, of.name+" of "+what, got, err, next, wrong)
			told[of.name+" "+wrong.Error()]++
		}
	}
	for _, of := range calls {
		for _, wrong := range []api.Errno{api.OK, api.ErrRange, api.ErrFull} {
			if word := of.name + " " + wrong.Error(); told[word] < 50 {
				t.Errorf("%s was told only %d times", word, told[word])
			}
		}
	}
}

// TestThereAndBack: what is carried to where nothing stands, and no ref leads, and carried back, is the sheet, but for how formulas are written.
func TestThereAndBack(t *testing.T) {
	d := drawer{rand.New(rand.NewPCG(11, 2))}
	held := 0
	for range 5000 {
		j := d.sheet()
		l := j.list()
		from, to := box("A1:D6"), api.Cell{Col: 8 + d.IntN(12), Row: 20 + d.IntN(60)}
		there, err := fill.Carry(l, from, to)
		if err != nil {
			continue
		}
		again, err := fill.Carry(there, api.Box{From: to, To: api.Cell{Col: to.Col + 3, Row: to.Row + 5}}, from.From)
		if err != nil || !alike(again, l, j) {
			t.Fatalf("Carry of %s to %s and back: %s, %v", listed(l), named(to), listed(again), err)
		}
		held++
	}
	if held < 1000 {
		t.Errorf("held only %d times", held)
	}
}

// alike: each text is the one that stood there, or that one as it is printed.
func alike(got, want []api.Filled, j judge) bool {
	return slices.EqualFunc(got, want, func(g, w api.Filled) bool {
		return g.Cell == w.Cell && (g.Text == w.Text || g.Text == j[w.Cell].printed)
	})
}
