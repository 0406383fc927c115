package refs_test

import (
	"fmt"
	"math/rand/v2"
	"reflect"
	"regexp"
	"slices"
	"strconv"
	"strings"
	"testing"

	"sccsettle/api"
	"sccsettle/formula"
	"sccsettle/refs"
)

const gone = "#REF!"

// spot is a ref as it is written: its numbers, and the `$` ahead of each.
type spot struct {
	col, row       int
	fixCol, fixRow string
}

func (s spot) String() string {
	return fmt.Sprintf("%s%c%s%d", s.fixCol, 'A'+s.col-1, s.fixRow, s.row)
}

func (s spot) is() bool { return s.col >= 1 && s.col <= 26 && s.row >= 1 && s.row <= 99 }

// judge tells what a ref, and a box, becomes, by another way than the program: lists of lines, and texts.
type judge struct {
	ref func(s spot) spot
	box func(a, b spot) (spot, spot)
}

// inText: a text in quotes, or a box, or a ref. Texts have to be taken, too, so that what looks like a ref in them stays.
var inText = regexp.MustCompile(`"[^"]*"|(\$?)([A-Z])(\$?)([0-9]+)(?::(\$?)([A-Z])(\$?)([0-9]+))?`)

func (j judge) of(text string) string {
	return inText.ReplaceAllStringFunc(text, func(piece string) string {
		if piece[0] == '"' {
			return piece
		}
		m := inText.FindStringSubmatch(piece)
		first := spotOf(m[1:5])
		if m[6] == "" {
			if s := j.ref(first); s.is() {
				return s.String()
			}
			return gone
		}
		a, b := j.box(first, spotOf(m[5:9]))
		if !a.is() || !b.is() {
			return gone
		}
		return a.String() + ":" + b.String()
	})
}

func spotOf(m []string) spot {
	row, _ := strconv.Atoi(m[3])
	return spot{col: int(m[1][0]-'A') + 1, row: row, fixCol: m[0], fixRow: m[2]}
}

func each(ref func(s spot) spot) judge {
	return judge{ref: ref, box: func(a, b spot) (spot, spot) { return ref(a), ref(b) }}
}

func movedBy(cols, rows int) judge {
	return each(func(s spot) spot {
		if s.fixCol == "" {
			s.col += cols
		}
		if s.fixRow == "" {
			s.row += rows
		}
		return s
	})
}

// numbered: the numbers of the lines of a sheet, as they stand.
func numbered(row bool) []int {
	most := 26
	if row {
		most = 99
	}
	var list []int
	for line := range most {
		list = append(list, line+1)
	}
	return list
}

// put gives a spot another line.
func put(s spot, row bool, line int) spot {
	if row {
		s.row = line
	} else {
		s.col = line
	}
	return s
}

func lineOf(s spot, row bool) int {
	if row {
		return s.row
	}
	return s.col
}

// insertedAt: new lines stand as 0 in the list of the old ones.
func insertedAt(row bool, at, many int) judge {
	old := numbered(row)
	now := slices.Insert(slices.Clone(old), at-1, make([]int, many)...)[:len(old)]
	return each(func(s spot) spot { return put(s, row, slices.Index(now, lineOf(s, row))+1) })
}

// deletedAt: what is left of a box's lines is looked up, line by line.
func deletedAt(row bool, at, many int) judge {
	now := slices.DeleteFunc(numbered(row), func(line int) bool { return line >= at && line < at+many })
	place := func(line int) int { return slices.Index(now, line) + 1 }
	return judge{
		ref: func(s spot) spot { return put(s, row, place(lineOf(s, row))) },
		box: func(a, b spot) (spot, spot) {
			low, high := min(lineOf(a, row), lineOf(b, row)), max(lineOf(a, row), lineOf(b, row))
			var left []int
			for line := low; line <= high; line++ {
				if place(line) > 0 {
					left = append(left, place(line))
				}
			}
			if left == nil {
				return spot{}, spot{}
			}
			first, last := left[0], left[len(left)-1]
			if lineOf(a, row) > lineOf(b, row) {
				first, last = last, first
			}
			return put(a, row, first), put(b, row, last)
		},
	}
}

// carriedFrom: which spots are carried stands in a list of them all.
func carriedFrom(from api.Box, cols, rows int) judge {
	carried := map[[2]int]int{}
	for col := from.From.Col; col <= from.To.Col; col++ {
		for row := from.From.Row; row <= from.To.Row; row++ {
			carried[[2]int{col, row}] = 1
		}
	}
	by := func(s spot, times int) spot {
		s.col += times * cols
		s.row += times * rows
		return s
	}
	in := func(s spot) int { return carried[[2]int{s.col, s.row}] }
	return judge{
		ref: func(s spot) spot { return by(s, in(s)) },
		box: func(a, b spot) (spot, spot) { return by(a, in(a)*in(b)), by(b, in(a)*in(b)) },
	}
}

// wantJudged holds a node against the judge's text of what was given.
func wantJudged(t *testing.T, what, text string, j judge, n api.Node, err error) {
	t.Helper()
	want := j.of(text)
	wanted, _, wrong := formula.Parse(want)
	if wrong != nil {
		t.Fatalf("%s of %s: the judge says %s: %v", what, text, want, wrong)
	}
	if err != nil || !reflect.DeepEqual(n, wanted) {
		got, _ := formula.Print(n)
		t.Fatalf("%s of %s = %s, %v, want %s", what, text, got, err, want)
	}
}

// TestR3Columns: a ref and a box at every place, by every number, between columns that lie at all distances.
func TestR3Columns(t *testing.T) {
	for at := 1; at <= 26; at++ {
		for many := 0; many <= 26; many++ {
			in, out := insertedAt(false, at, many), deletedAt(false, at, many)
			for a := range 26 {
				for b := a % 5; b < 26; b += 5 {
					text := fmt.Sprintf("=SUM(%c1:$%c$2)+%c$4", 'A'+a, 'A'+b, 'A'+a)
					holdLines(t, text, false, at, many, in, out)
				}
			}
		}
	}
}

// TestR3Rows: the lines beside the edges, and beside one another.
func TestR3Rows(t *testing.T) {
	lines := []int{1, 2, 3, 4, 7, 50, 51, 97, 98, 99}
	for _, at := range lines {
		for _, many := range []int{0, 1, 2, 3, 47, 48, 49, 96, 97, 98, 99} {
			in, out := insertedAt(true, at, many), deletedAt(true, at, many)
			for _, a := range lines {
				for _, b := range lines {
					text := fmt.Sprintf("=SUM($A%d:C$%d)+$B%d", a, b, a)
					holdLines(t, text, true, at, many, in, out)
				}
			}
		}
	}
}

func holdLines(t *testing.T, text string, row bool, at, many int, in, out judge) {
	t.Helper()
	given := parse(t, text)
	n, err := refs.Inserted(given, row, at, many)
	wantJudged(t, fmt.Sprint("Inserted ", row, at, many), text, in, n, err)
	n, err = refs.Deleted(given, row, at, many)
	wantJudged(t, fmt.Sprint("Deleted ", row, at, many), text, out, n, err)
}

// drawn makes a formula with refs that lie close together, and sometimes at the edges.
func drawn(r *rand.Rand, levels int) string {
	if levels == 0 || r.IntN(4) == 0 {
		return []string{`"A1:B2"`, "12", "#DIV!", drawnRef(r), drawnRef(r), drawnRef(r)}[r.IntN(6)]
	}
	switch r.IntN(4) {
	case 0:
		return "-(" + drawn(r, levels-1) + "<" + drawn(r, levels-1) + ")"
	case 1:
		return drawn(r, levels-1) + "*" + drawnRef(r)
	}
	args := []string{drawnRef(r) + ":" + drawnRef(r), drawn(r, levels-1)}
	return "MAX(" + strings.Join(args[:1+r.IntN(2)], ",") + ")"
}

func drawnRef(r *rand.Rand) string {
	s := spot{col: 1 + r.IntN(5), row: 1 + r.IntN(5)}
	if r.IntN(4) == 0 {
		s.col += 21
	}
	if r.IntN(4) == 0 {
		s.row += 94
	}
	s.fixCol, s.fixRow = []string{"", "$"}[r.IntN(2)], []string{"", "$"}[r.IntN(2)]
	return s.String()
}

// TestDrawn holds all changes of drawn formulas against the judge.
func TestDrawn(t *testing.T) {
	r := rand.New(rand.NewPCG(4, 4))
	for range 20000 {
		text := "=" + drawn(r, 3)
		n, _, err := formula.Parse(text)
		if err != nil {
			continue
		}
		if text, err = formula.Print(n); err != nil {
			t.Fatal(err)
		}
		cols, rows := r.IntN(9)-4, r.IntN(9)-4
		got, err := refs.Moved(n, cols, rows)
		wantJudged(t, fmt.Sprint("Moved ", cols, rows), text, movedBy(cols, rows), got, err)
		row, at, many := r.IntN(2) == 0, 1+r.IntN(6), r.IntN(5)
		holdLines(t, text, row, at, many, insertedAt(row, at, many), deletedAt(row, at, many))
		from := api.Box{From: cell(1+r.IntN(3), 1+r.IntN(3))}
		from.To = cell(from.From.Col+r.IntN(24), from.From.Row+r.IntN(97))
		got, err = refs.Carried(n, from, cols, rows)
		wantJudged(t, fmt.Sprint("Carried ", from, cols, rows), text, carriedFrom(from, cols, rows), got, err)
	}
}

// TestInsertedIsDeleted: what comes in and goes again leaves all as it was, unless something falls off.
func TestInsertedIsDeleted(t *testing.T) {
	r := rand.New(rand.NewPCG(5, 5))
	for range 5000 {
		n, _, err := formula.Parse("=" + drawn(r, 2))
		if err != nil {
			continue
		}
		row, at, many := r.IntN(2) == 0, 1+r.IntN(26), r.IntN(4)
		in, err := refs.Inserted(n, row, at, many)
		if text, _ := formula.Print(in); err != nil || strings.Contains(text, gone) {
			continue
		}
		if out, err := refs.Deleted(in, row, at, many); err != nil || !reflect.DeepEqual(out, n) {
			t.Fatalf("Deleted of Inserted %v %d %d: %v, %v, want %v", row, at, many, out, err, n)
		}
	}
}

// changes: all four, each of which does something to most refs.
func changes(n api.Node) []api.Node {
	moved, _ := refs.Moved(n, 1, 1)
	inserted, _ := refs.Inserted(n, true, 1, 1)
	deleted, _ := refs.Deleted(n, false, 26, 1)
	carried, _ := refs.Carried(n, all, 0, 1)
	stayed, _ := refs.Moved(n, 0, 0)
	return []api.Node{moved, inserted, deleted, carried, stayed}
}

// spoil writes into every list of a node.
func spoil(n api.Node) {
	for i := range n.Kids {
		spoil(n.Kids[i])
		n.Kids[i] = api.Node{Kind: -1}
	}
	_ = append(n.Kids, api.Node{Kind: -2})
}

// TestFresh: no list that is answered shares memory with one that was given, or with another one.
func TestFresh(t *testing.T) {
	const text = `=SUM(A1:B2,MAX(C3,-D4),"x")*IF(A1,SUM(1,2),NONE())`
	n := parse(t, text)
	got := changes(n)
	for i, c := range got {
		spoil(c)
		if !reflect.DeepEqual(n, parse(t, text)) {
			t.Fatalf("change %d shares memory with its argument", i)
		}
		for j := i + 1; j < len(got); j++ {
			if !reflect.DeepEqual(got[j], changes(n)[j]) {
				t.Fatalf("change %d shares memory with change %d", i, j)
			}
		}
	}
	// A list that stands at two places of the argument stands at none twice in the answer.
	args := []api.Node{ref(cell(1, 1)), ref(cell(2, 2))}
	for i, c := range changes(sum(sum(args...), sum(args...))) {
		spoil(c.Kids[0])
		if c.Kids[1].Kids[0].Kind != api.NodeRef {
			t.Errorf("change %d has one list twice", i)
		}
	}
}

// TestBehindLength: what lies behind a list's length is neither read nor written.
func TestBehindLength(t *testing.T) {
	kids := []api.Node{ref(cell(1, 1)), ref(cell(2, 2)), ref(cell(3, 3))}
	n := sum(kids[:1]...)
	for i, c := range changes(n) {
		if len(c.Kids) != 1 {
			t.Errorf("change %d has %d kids", i, len(c.Kids))
		}
	}
	if cells, err := refs.Of(n); len(cells) != 1 || err != nil {
		t.Errorf("Of = %v, %v", cells, err)
	}
	if !reflect.DeepEqual(kids[1:], []api.Node{ref(cell(2, 2)), ref(cell(3, 3))}) {
		t.Errorf("written behind the length: %v", kids)
	}
}

// TestLongAnswer: a node whose text would be too long is no error here; it is what Check says of it afterwards.
func TestLongAnswer(t *testing.T) {
	text := "=A1" + strings.Repeat("+A1", 65)
	for i, c := range []func(n api.Node) (api.Node, error){
		func(n api.Node) (api.Node, error) { return refs.Moved(n, -1, 0) },
		func(n api.Node) (api.Node, error) { return refs.Moved(n, 0, 9) },
		func(n api.Node) (api.Node, error) { return refs.Inserted(n, true, 1, 10) },
		func(n api.Node) (api.Node, error) { return refs.Deleted(n, true, 1, 1) },
		func(n api.Node) (api.Node, error) { return refs.Carried(n, all, 0, -1) },
	} {
		n, err := c(parse(t, text))
		if err != nil || n.Kind != api.NodeTwo || formula.Check(n) != api.ErrFull {
			t.Errorf("change %d: %v, %v", i, formula.Check(n), err)
		}
	}
}
