package addr_test

import (
	"cmp"
	"errors"
	"fmt"
	"math"
	"regexp"
	"slices"
	"strings"
	"testing"

	"sccsettle/addr"
	"sccsettle/api"
)

// noCells lie just beside the cells, and far away from them.
var noCells = []api.Cell{
	{}, {Col: 0, Row: 1}, {Col: 1, Row: 0}, {Col: 27, Row: 1}, {Col: 1, Row: 100}, {Col: -1, Row: 5}, {Col: 5, Row: -1},
	{Col: 26, Row: 100}, {Col: 27, Row: 99}, {Col: math.MaxInt, Row: 1}, {Col: 1, Row: math.MaxInt},
	{Col: math.MinInt, Row: 1}, {Col: 1, Row: math.MinInt}, {Col: math.MaxInt, Row: math.MinInt},
}

// allCells are the cells of the greatest box, made without the package.
func allCells() []api.Cell {
	var all []api.Cell
	for row := 1; row <= 99; row++ {
		for col := 1; col <= 26; col++ {
			all = append(all, api.Cell{Col: col, Row: row})
		}
	}
	return all
}

func wantErr(t *testing.T, what string, err error, want api.Errno) {
	t.Helper()
	if !errors.Is(err, want) {
		t.Errorf("%s: error %v, want %v", what, err, want)
	}
}

func TestA1Check(t *testing.T) {
	for _, c := range allCells() {
		if err := addr.Check(c); err != nil {
			t.Errorf("Check(%v): %v", c, err)
		}
	}
	for _, c := range noCells {
		wantErr(t, fmt.Sprint("Check ", c), addr.Check(c), api.ErrRange)
	}
}

func TestA1NamesAndCells(t *testing.T) {
	for _, c := range allCells() {
		want := fmt.Sprintf("%c%d", 'A'+c.Col-1, c.Row)
		if got, err := addr.Name(c); got != want || err != nil {
			t.Errorf("Name(%v) = %q, %v, want %q", c, got, err, want)
		}
		if got, err := addr.Cell(want); got != c || err != nil {
			t.Errorf("Cell(%q) = %v, %v, want %v", want, got, err, c)
		}
	}
	if got, _ := addr.Name(api.Cell{Col: 2, Row: 12}); got != "B12" {
		t.Errorf("Name of column 2, row 12 = %q, want B12", got)
	}
	for _, c := range noCells {
		got, err := addr.Name(c)
		wantErr(t, fmt.Sprint("Name ", c), err, api.ErrRange)
		if got != "" {
			t.Errorf("Name(%v) = %q beside its error", c, got)
		}
	}
}

func TestA1Refs(t *testing.T) {
	for _, c := range allCells() {
		for fix := range 4 {
			r := api.Ref{Cell: c, FixCol: fix&1 != 0, FixRow: fix&2 != 0}
			want := fmt.Sprintf("%s%c%s%d", []string{"", "$"}[fix&1], 'A'+c.Col-1, []string{"", "$"}[fix>>1], c.Row)
			if got, err := addr.RefName(r); got != want || err != nil {
				t.Errorf("RefName(%v) = %q, %v, want %q", r, got, err, want)
			}
			if got, err := addr.Ref(want); got != r || err != nil {
				t.Errorf("Ref(%q) = %v, %v, want %v", want, got, err, r)
			}
		}
	}
	for _, c := range noCells {
		got, err := addr.RefName(api.Ref{Cell: c, FixCol: true})
		wantErr(t, fmt.Sprint("RefName ", c), err, api.ErrRange)
		if got != "" {
			t.Errorf("RefName of %v = %q beside its error", c, got)
		}
	}
}

// holdText holds Cell and Ref of a text against the forms that they may have.
func holdText(t *testing.T, text string, cell, ref *regexp.Regexp) {
	t.Helper()
	c, err := addr.Cell(text)
	if cell.MatchString(text) != (err == nil) || err != nil && (c != api.Cell{} || !errors.Is(err, api.ErrSyntax)) {
		t.Errorf("Cell(%q) = %v, %v", text, c, err)
	}
	r, err := addr.Ref(text)
	if ref.MatchString(text) != (err == nil) || err != nil && (r != api.Ref{} || !errors.Is(err, api.ErrSyntax)) {
		t.Errorf("Ref(%q) = %v, %v", text, r, err)
	}
}

// TestA1Texts holds every text of up to 5 bytes of a small alphabet, and every text of 2 bytes, against the forms.
func TestA1Texts(t *testing.T) {
	cell := regexp.MustCompile(`^[A-Z][1-9][0-9]?\z`)
	ref := regexp.MustCompile(`^\$?[A-Z]\$?[1-9][0-9]?\z`)
	texts := []string{""}
	for from := 0; len(texts[from]) < 5; from++ {
		for _, b := range "AZ@[a$019/:" {
			texts = append(texts, texts[from]+string(b))
		}
	}
	for high := range 256 {
		for low := range 256 {
			texts = append(texts, string([]byte{byte(high), byte(low)}))
		}
	}
	for _, text := range texts {
		holdText(t, text, cell, ref)
	}
}

func TestA1WrongTexts(t *testing.T) {
	texts := []string{
		"", "A", "$", "$A", "$A$", "1", "b1", "A0", "A00", "A01", "A100", "A099", "A-1", "A+1", "A 1", " A1", "A1 ", "A1\n", "A1\x00",
		"AA1", "$$A1", "A$$1", "A1$", "$1A", "A1.5", "A1:B2", "\u00c41", "\uff211", "A\u0661",
		"A18446744073709551617", "A4294967297", "A" + strings.Repeat("9", 300), strings.Repeat("A1", 200),
	}
	for _, text := range texts {
		_, err := addr.Cell(text)
		wantErr(t, "Cell "+text, err, api.ErrSyntax)
		r, err := addr.Ref(text)
		wantErr(t, "Ref "+text, err, api.ErrSyntax)
		if (r != api.Ref{}) {
			t.Errorf("Ref(%q) = %v beside its error", text, r)
		}
	}
}

func TestA1Less(t *testing.T) {
	all := allCells()
	for i, a := range all {
		for _, j := range []int{0, i - 27, i - 26, i - 25, i - 1, i, i + 1, i + 25, i + 26, i + 27, len(all) - 1} {
			if j >= 0 && j < len(all) && addr.Less(a, all[j]) != (i < j) {
				t.Errorf("Less(%v, %v) = %v", a, all[j], i >= j)
			}
			if j >= 0 && j < len(all) && addr.Compare(a, all[j]) != cmp.Compare(i, j) {
				t.Errorf("Compare(%v, %v) = %v", a, all[j], addr.Compare(a, all[j]))
			}
		}
	}
}

func TestA2Shift(t *testing.T) {
	for _, text := range []string{"A1", "Z99", "M50", "C4", "$C4", "C$4", "$C$4", "$A99", "Z$1"} {
		r, err := addr.Ref(text)
		if err != nil {
			t.Fatal(err)
		}
		for cols := -27; cols <= 27; cols++ {
			for rows := -100; rows <= 100; rows++ {
				holdShift(t, r, cols, rows)
			}
		}
	}
	fixed := api.Ref{Cell: api.Cell{Col: 3, Row: 4}, FixCol: true}
	if got, ok := addr.Shift(fixed, 1, 1); !ok || got != (api.Ref{Cell: api.Cell{Col: 3, Row: 5}, FixCol: true}) {
		t.Errorf("Shift of $C4 by 1, 1 = %v, %v, want $C5", got, ok)
	}
}

func holdShift(t *testing.T, r api.Ref, cols, rows int) {
	t.Helper()
	want := r
	if !r.FixCol {
		want.Cell.Col += cols
	}
	if !r.FixRow {
		want.Cell.Row += rows
	}
	is := want.Cell.Col >= 1 && want.Cell.Col <= 26 && want.Cell.Row >= 1 && want.Cell.Row <= 99
	if !is {
		want = api.Ref{}
	}
	if got, ok := addr.Shift(r, cols, rows); ok != is || got != want {
		t.Errorf("Shift(%v, %d, %d) = %v, %v, want %v, %v", r, cols, rows, got, ok, want, is)
	}
}

func TestA2ShiftFar(t *testing.T) {
	far := []int{math.MaxInt, math.MinInt, math.MaxInt - 25, math.MinInt + 25, 1 << 32, -1 << 32, 1 << 62}
	for _, c := range []api.Cell{{Col: 1, Row: 1}, {Col: 26, Row: 99}} {
		for _, by := range far {
			if got, ok := addr.Shift(api.Ref{Cell: c}, by, 0); ok || got != (api.Ref{}) {
				t.Errorf("Shift(%v, %d, 0) = %v, %v", c, by, got, ok)
			}
			if got, ok := addr.Shift(api.Ref{Cell: c}, 0, by); ok || got != (api.Ref{}) {
				t.Errorf("Shift(%v, 0, %d) = %v, %v", c, by, got, ok)
			}
			stays := api.Ref{Cell: c, FixCol: true, FixRow: true}
			if got, ok := addr.Shift(stays, by, by); !ok || got != stays {
				t.Errorf("Shift(%v, %d, %d) = %v, %v", stays, by, by, got, ok)
			}
		}
	}
}

// TestA2ShiftOfNone: a ref that has no cell is not shifted, not even where the way leads to a cell.
func TestA2ShiftOfNone(t *testing.T) {
	for _, c := range noCells {
		for _, by := range []api.Cell{{}, {Col: 5 - c.Col, Row: 5 - c.Row}} {
			if got, ok := addr.Shift(api.Ref{Cell: c}, by.Col, by.Row); ok || got != (api.Ref{}) {
				t.Errorf("Shift(%v, %d, %d) = %v, %v", c, by.Col, by.Row, got, ok)
			}
		}
	}
}

func TestA2Box(t *testing.T) {
	box := func(c1, r1, c2, r2 int) api.Box {
		return api.Box{From: api.Cell{Col: c1, Row: r1}, To: api.Cell{Col: c2, Row: r2}}
	}
	for _, c := range []struct{ a, b, want string }{
		{"C4", "A5", "A4 C5"}, {"A5", "C4", "A4 C5"}, {"A4", "C5", "A4 C5"}, {"C5", "A4", "A4 C5"},
		{"B2", "B2", "B2 B2"}, {"Z99", "A1", "A1 Z99"}, {"A9", "A3", "A3 A9"}, {"D1", "B1", "B1 D1"},
	} {
		a, _ := addr.Cell(c.a)
		b, _ := addr.Cell(c.b)
		from, to, _ := strings.Cut(c.want, " ")
		want := api.Box{}
		want.From, _ = addr.Cell(from)
		want.To, _ = addr.Cell(to)
		if got, err := addr.Box(a, b); got != want || err != nil {
			t.Errorf("Box(%s, %s) = %v, %v, want %v", c.a, c.b, got, err, want)
		}
	}
	if got, _ := addr.Box(api.Cell{Col: 3, Row: 4}, api.Cell{Col: 1, Row: 5}); got != box(1, 4, 3, 5) {
		t.Errorf("Box of C4, A5 = %v", got)
	}
	for _, c := range noCells {
		for _, corners := range [][2]api.Cell{{c, {Col: 2, Row: 2}}, {{Col: 2, Row: 2}, c}, {c, c}} {
			got, err := addr.Box(corners[0], corners[1])
			wantErr(t, fmt.Sprint("Box ", corners), err, api.ErrRange)
			if got != (api.Box{}) {
				t.Errorf("Box%v = %v beside its error", corners, got)
			}
		}
	}
}

func TestA2Cells(t *testing.T) {
	all := allCells()
	corners := []api.Cell{{Col: 1, Row: 1}, {Col: 26, Row: 99}, {Col: 1, Row: 99}, {Col: 26, Row: 1}, {Col: 3, Row: 4}, {Col: 5, Row: 7}, {Col: 3, Row: 7}, {Col: 5, Row: 4}}
	for _, from := range corners {
		for _, to := range corners {
			got, err := addr.Cells(api.Box{From: from, To: to})
			lawful := addr.CheckBox(api.Box{From: from, To: to})
			if from.Col > to.Col || from.Row > to.Row {
				wantErr(t, fmt.Sprint("Cells ", from, to), err, api.ErrRange)
				wantErr(t, fmt.Sprint("CheckBox ", from, to), lawful, api.ErrRange)
				if got != nil {
					t.Errorf("Cells(%v, %v) = %v beside its error", from, to, got)
				}
				continue
			}
			want := slices.DeleteFunc(slices.Clone(all), func(c api.Cell) bool {
				return c.Col < from.Col || c.Col > to.Col || c.Row < from.Row || c.Row > to.Row
			})
			if !slices.Equal(got, want) || err != nil || lawful != nil {
				t.Errorf("Cells(%v, %v) = %v, %v, %v, want %v", from, to, got, err, lawful, want)
			}
			for _, c := range append(all, noCells...) {
				if addr.Within(c, api.Box{From: from, To: to}) != slices.Contains(want, c) {
					t.Errorf("Within(%v, %v to %v) is otherwise than Cells", c, from, to)
				}
			}
			if !slices.IsSortedFunc(got, less) {
				t.Errorf("Cells(%v, %v) do not stand as Less says", from, to)
			}
		}
	}
}

func less(a, b api.Cell) int {
	if addr.Less(a, b) {
		return -1
	}
	if addr.Less(b, a) {
		return 1
	}
	return 0
}

func TestA2CellsOfNoBox(t *testing.T) {
	for _, c := range noCells {
		for _, b := range []api.Box{{From: c, To: api.Cell{Col: 26, Row: 99}}, {From: api.Cell{Col: 1, Row: 1}, To: c}, {From: c, To: c}} {
			got, err := addr.Cells(b)
			wantErr(t, fmt.Sprint("Cells ", b), err, api.ErrRange)
			wantErr(t, fmt.Sprint("CheckBox ", b), addr.CheckBox(b), api.ErrRange)
			if got != nil {
				t.Errorf("Cells(%v) = %v beside its error", b, got)
			}
		}
	}
}

// TestA2CellsAreFresh: what is written into one answer is not seen in the next one.
func TestA2CellsAreFresh(t *testing.T) {
	b := api.Box{From: api.Cell{Col: 1, Row: 1}, To: api.Cell{Col: 2, Row: 2}}
	first, _ := addr.Cells(b)
	clear(first)
	second, _ := addr.Cells(b)
	if second[0] != b.From || second[3] != b.To {
		t.Errorf("Cells after the first answer was cleared = %v", second)
	}
}
