package fill_test

import (
	"fmt"
	"math"
	"strconv"
	"strings"
	"testing"

	"sccsettle/api"
	"sccsettle/fill"
	"sccsettle/graph"
	"sccsettle/plain"
	"sccsettle/settle"
)

// at reads a cell's name, without the program's own words for it.
func at(name string) api.Cell {
	row, err := strconv.Atoi(name[1:])
	if err != nil {
		panic(name)
	}
	return api.Cell{Col: int(name[0]-'A') + 1, Row: row}
}

func named(c api.Cell) string { return fmt.Sprintf("%c%d", 'A'+c.Col-1, c.Row) }

// box reads two corners as they are written, in any order: "A1:B2".
func box(text string) api.Box {
	from, to, _ := strings.Cut(text, ":")
	return api.Box{From: at(from), To: at(to)}
}

// sheet reads cells with their texts: "A1 =B1; B1 1".
func sheet(text string) (l []api.Filled) {
	if text == "" {
		return nil
	}
	for _, word := range strings.Split(text, "; ") {
		name, of, _ := strings.Cut(word, " ")
		l = append(l, api.Filled{Cell: at(name), Text: of})
	}
	return l
}

func listed(l []api.Filled) string {
	var words []string
	for _, f := range l {
		words = append(words, named(f.Cell)+" "+f.Text)
	}
	return strings.Join(words, "; ")
}

// call is one of the three; Down asks for no cell.
type call struct {
	name string
	do   func(l []api.Filled, b api.Box, to api.Cell) ([]api.Filled, error)
}

var (
	copied  = call{"Copy", fill.Copy}
	carried = call{"Carry", fill.Carry}
	down    = call{"Down", func(l []api.Filled, b api.Box, _ api.Cell) ([]api.Filled, error) { return fill.Down(l, b) }}
	calls   = []call{copied, carried, down}
)

type boxCase struct{ sheet, box, to, want string }

func (c call) hold(t *testing.T, cases []boxCase) {
	t.Helper()
	for _, of := range cases {
		got, err := c.do(sheet(of.sheet), box(of.box), at(of.to))
		if err != nil || listed(got) != of.want {
			t.Errorf("%s of %.90s: %s to %s: %s, %v; want %s", c.name, of.sheet, of.box, of.to, listed(got), err, of.want)
		}
		if err := graph.Check(got); err != nil {
			t.Errorf("%s of %.90s: %s to %s is no sheet: %v", c.name, of.sheet, of.box, of.to, err)
		}
	}
}

// refuse asks for an error, and for no sheet beside it.
func (c call) refuse(t *testing.T, l []api.Filled, b api.Box, to api.Cell, want api.Errno) {
	t.Helper()
	if got, err := c.do(l, b, to); len(got) != 0 || plain.Told(err) != want {
		t.Errorf("%s of %.90s: %v to %v: %.90s, %v; want %v", c.name, listed(l), b, to, listed(got), err, want)
	}
}

func TestC1Copy(t *testing.T) {
	copied.hold(t, []boxCase{
		{"", "A1:Z99", "A1", ""},
		{"", "A1:B2", "Y98", ""},
		{"A1 1", "A1:A1", "B2", "A1 1; B2 1"},
		{"A1 1", "A1:A1", "Z99", "A1 1; Z99 1"},
		{"Z99 1", "Z99:Z99", "A1", "A1 1; Z99 1"},
		{"B2 1", "A1:C3", "D4", "B2 1; E5 1"},
		{"A1 1; B1 2; A2 3; B2 4", "A1:B2", "C1", "A1 1; B1 2; C1 1; D1 2; A2 3; B2 4; C2 3; D2 4"},
		{"A1 1; B1 2; A2 3; B2 4", "A2:B2", "A5", "A1 1; B1 2; A2 3; B2 4; A5 3; B5 4"},
		{"A1 1; B1 2; A2 3; B2 4", "B1:B2", "D9", "A1 1; B1 2; A2 3; B2 4; D9 2; D10 4"},
		{"A1 1; B1 2; A2 3; B2 4", "A1:B2", "A1", "A1 1; B1 2; A2 3; B2 4"},
		// A cell that is blank makes blank.
		{"A1 1; C1 x; D1 y; C2 z", "A1:B1", "C1", "A1 1; C1 1; C2 z"},
		{"C3 x; D3 y; C4 z; D4 w; E5 v", "A1:B2", "C3", "E5 v"},
		{"C3 x", "A1:A1", "C3", ""},
		// What lies beside the box stays.
		{"A1 1; B2 2; C3 3", "B2:B2", "D4", "A1 1; B2 2; C3 3; D4 2"},
		{"B1 1; A2 2; B2 3; C2 4; B3 5", "B2:B2", "E2", "B1 1; A2 2; B2 3; C2 4; E2 3; B3 5"},
		// Refs go along, but for what is fixed.
		{"A1 =B2+$B2+B$2+$B$2", "A1:A1", "C4", "A1 =B2+$B2+B$2+$B$2; C4 =D5+$B5+D$2+$B$2"},
		{"C4 =D5", "C4:C4", "A1", "A1 =B2; C4 =D5"},
		{"C4 =A5+$A5", "C4:C4", "B4", "B4 =#REF!+$A5; C4 =A5+$A5"},
		{"B2 =Z99+$Z$99+Z98", "B2:B2", "B3", "B2 =Z99+$Z$99+Z98; B3 =#REF!+$Z$99+Z99"},
		{"A1 =SUM(A1:A5)+B$2", "A1:A1", "B2", "A1 =SUM(A1:A5)+B$2; B2 =SUM(B2:B6)+C$2"},
		{"B2 =SUM(A2:C9)+SUM($A$2:$C$9)", "B2:B2", "A2", "A2 =SUM(#REF!)+SUM($A$2:$C$9); B2 =SUM(A2:C9)+SUM($A$2:$C$9)"},
		{"A1 =A1", "A1:A1", "B2", "A1 =A1; B2 =B2"},
		// All others are as they were, also those that look at what is written over.
		{"A1 =C1; B1 1; C1 2; D1 = $C1 ", "B1:B1", "C1", "A1 =C1; B1 1; C1 1; D1 = $C1 "},
		// What only looks like a ref, or stands in no formula.
		{`A1 B2; B1 ="B2"&B2; C1  =B2; D1 #REF!`, "A1:D1", "A3", `A1 B2; B1 ="B2"&B2; C1  =B2; D1 #REF!; A3 B2; B3 ="B2"&B4; C3  =B2; D3 #REF!`},
	})
}

// All is looked at ahead of what is written, wherever the box comes to lie on itself.
func TestC1OverItself(t *testing.T) {
	const (
		row    = "A1 1; B1 2; C1 3; D1 4"
		gaps   = "A1 1; C1 3"
		square = "A1 1; B1 2; C1 =A1; A2 4; B2 =B1; C2 6; A3 =A2; B3 8; C3 9"
	)
	copied.hold(t, []boxCase{
		{row, "A1:C1", "B1", "A1 1; B1 1; C1 2; D1 3"},
		{row, "B1:D1", "A1", "A1 2; B1 3; C1 4; D1 4"},
		{"A1 1; A2 2; A3 3", "A1:A3", "A2", "A1 1; A2 1; A3 2; A4 3"},
		{"A1 1; A2 2; A3 3", "A2:A3", "A1", "A1 2; A2 3; A3 3"},
		{gaps, "A1:C1", "B1", "A1 1; B1 1; D1 3"},
		{gaps, "A1:C1", "C1", "A1 1; C1 1; E1 3"},
		{square, "A1:B2", "B2", "A1 1; B1 2; C1 =A1; A2 4; B2 1; C2 2; A3 =A2; B3 4; C3 =C2"},
		{square, "B2:C3", "A1", "A1 =#REF!; B1 6; C1 =A1; A2 8; B2 9; C2 6; A3 =A2; B3 8; C3 9"},
		{square, "A2:B3", "B1", "A1 1; B1 4; C1 =#REF!; A2 4; B2 =B1; C2 8; A3 =A2; B3 8; C3 9"},
	})
	carried.hold(t, []boxCase{
		{row, "A1:C1", "B1", "B1 1; C1 2; D1 3"},
		{row, "B1:D1", "A1", "A1 2; B1 3; C1 4"},
		{"A1 1; A2 2; A3 3", "A1:A3", "A2", "A2 1; A3 2; A4 3"},
		{gaps, "A1:C1", "B1", "B1 1; D1 3"},
		{gaps, "A1:C1", "C1", "C1 1; E1 3"},
		{square, "A1:B2", "B2", "C1 =B2; B2 1; C2 2; A3 =B3; B3 4; C3 =C2"},
		{square, "B2:C3", "A1", "A1 =B1; B1 6; C1 =A1; A2 8; B2 9; A3 =A2"},
	})
}

func TestC1Carry(t *testing.T) {
	carried.hold(t, []boxCase{
		{"", "A1:Z99", "A1", ""},
		{"", "A1:B2", "Y98", ""},
		{"A1 1", "A1:A1", "B2", "B2 1"},
		{"A1 1", "A1:A1", "Z99", "Z99 1"},
		{"Z99 1", "Z99:Z99", "A1", "A1 1"},
		{"B2 1", "A1:C3", "D4", "E5 1"},
		{"A1 1; B1 2; A2 3; B2 4", "A1:B2", "C1", "C1 1; D1 2; C2 3; D2 4"},
		{"A1 1; B1 2; A2 3; B2 4", "A2:B2", "A5", "A1 1; B1 2; A5 3; B5 4"},
		{"A1 1; B1 = A1", "A1:B1", "A1", "A1 1; B1 = A1"},
		// A cell that is blank makes blank.
		{"A1 1; C1 x; D1 y; C2 z", "A1:B1", "C1", "C1 1; C2 z"},
		{"C3 x; D3 y; C4 z; D4 w; E5 v", "A1:B2", "C3", "E5 v"},
		// Refs into the box follow it, fixed or not, wherever they stand themselves; into its blank cells, too.
		{"A1 1; B1 =A1+$A1+A$1+$A$1", "A1:A1", "C3", "B1 =C3+$C3+C$3+$C$3; C3 1"},
		{"A1 1; B1 =A1+$A1+A$1+$A$1", "A1:B1", "C3", "C3 1; D3 =C3+$C3+C$3+$C$3"},
		{"A1 =A1", "A1:A1", "B2", "B2 =B2"},
		{"A1 =B1; B1 =A1", "A1:A1", "A9", "B1 =A9; A9 =B1"},
		{"C1 =B2+C2", "A1:B2", "D4", "C1 =E5+C2"},
		// What is carried is not Moved: refs that lead out of the box stay.
		{"A1 =B2+$B$2; B2 7", "A1:A1", "C9", "B2 7; C9 =B2+$B$2"},
		{"C3 =A1", "C3:C3", "B2", "B2 =A1"},
		{"C3 =A1", "C3:C3", "A2", "A2 =A1"},
		// Boxes follow only as a whole.
		{"A1 1; C1 =SUM(A1:A2)+SUM($A$2:A1); A2 2", "A1:A2", "B5", "C1 =SUM(B5:B6)+SUM($B$6:B5); B5 1; B6 2"},
		{"A1 1; C1 =SUM(A1:A3)+SUM(A1:B2)+A2; A2 2", "A1:A2", "B5", "C1 =SUM(A1:A3)+SUM(A1:B2)+B6; B5 1; B6 2"},
		// Refs to cells that are written over stay, those of what is carried, too.
		{"A1 1; B1 2; C1 =B1; D1 =SUM(B1:B1)", "A1:A1", "B1", "B1 1; C1 =B1; D1 =SUM(B1:B1)"},
		{"A1 =B1; B1 2", "A1:A1", "B1", "B1 =B1"},
		{"A1 =A2; A2 =A1", "A1:A1", "A2", "A2 =A2"},
		{`A1 B2; B1 ="B2"&B2; C1  =B2; D1 #REF!`, "A1:B3", "A5", `C1  =B2; D1 #REF!; A5 B2; B5 ="B2"&B6`},
	})
}

// A formula that is the one that it was keeps its text; one that is another one is printed, with nothing in it that need not be.
func TestC1Written(t *testing.T) {
	const (
		untidy = `= ( B1 ) + ( (2*3) ) & "a ""b"" A9"`
		fixed  = `= ( $B$1 ) & SUM( $A$1:$B$2 ) `
		none   = ` = ( B1 )`
	)
	copied.hold(t, []boxCase{
		{"A1 " + untidy, "A1:A1", "A1", "A1 " + untidy},
		{"A1 " + untidy, "B1:B1", "C1", "A1 " + untidy},
		{"A1 " + untidy, "A1:A1", "B1", "A1 " + untidy + `; B1 =C1+2*3&"a ""b"" A9"`},
		{"A1 " + fixed, "A1:A1", "C7", "A1 " + fixed + "; C7 " + fixed},
		{"A1 " + none, "A1:A1", "C7", "A1 " + none + "; C7 " + none},
		{"A1 = 1; B1 =(2); C1 = #REF!; D1 = NONE( )", "A1:D1", "A2", "A1 = 1; B1 =(2); C1 = #REF!; D1 = NONE( ); A2 = 1; B2 =(2); C2 = #REF!; D2 = NONE( )"},
		{"A1 = $B1", "A1:A1", "B1", "A1 = $B1; B1 = $B1"},
		{"A1 = $B1", "A1:A1", "A2", "A1 = $B1; A2 =$B2"},
	})
	carried.hold(t, []boxCase{
		{"A1 " + untidy, "A1:A1", "A1", "A1 " + untidy},
		{"A1 " + untidy, "A1:A1", "B9", "B9 " + untidy},
		{"A1 " + untidy, "A9:A9", "B9", "A1 " + untidy},
		{"A1 " + untidy, "B1:B1", "D1", `A1 =D1+2*3&"a ""b"" A9"`},
		{"A1 " + untidy, "A1:B1", "C1", `C1 =D1+2*3&"a ""b"" A9"`},
		{"A1 " + fixed, "A1:B1", "C7", "C7 =$D$7&SUM($A$1:$B$2)"},
		{"A1 " + none, "A1:B1", "C7", "C7 " + none},
	})
	down.hold(t, []boxCase{
		{"A1 " + untidy, "A1:A1", "A1", "A1 " + untidy},
		{"A1 " + untidy, "A1:A2", "A1", "A1 " + untidy + `; A2 =B2+2*3&"a ""b"" A9"`},
		{"A1 " + fixed, "A1:A3", "A1", "A1 " + fixed + "; A2 " + fixed + "; A3 " + fixed},
		{"A1 = B$1", "A1:A2", "A1", "A1 = B$1; A2 = B$1"},
	})
}

func TestC2Down(t *testing.T) {
	down.hold(t, []boxCase{
		{"", "A1:Z99", "A1", ""},
		{"A1 1", "A1:A3", "A1", "A1 1; A2 1; A3 1"},
		{"A1 1; B1 2; C1 3", "A1:B2", "A1", "A1 1; B1 2; C1 3; A2 1; B2 2"},
		{"A1 1; A2 2; A3 3; A4 4", "A2:A3", "A1", "A1 1; A2 2; A3 2; A4 4"},
		{"A1 1; A2 2; A3 3; A4 4", "A1:A4", "A1", "A1 1; A2 1; A3 1; A4 1"},
		{"Z98 1", "Z98:Z99", "A1", "Z98 1; Z99 1"},
		// A box of one row has none below it.
		{"A1 1; B1 =A1; A2 3", "A1:C1", "A1", "A1 1; B1 =A1; A2 3"},
		{"Z99 1", "Z99:Z99", "A1", "Z99 1"},
		// A cell that is blank makes blank, only below it, and only in the box.
		{"A2 x; B2 y; A3 z; A4 w", "A1:A3", "A1", "B2 y; A4 w"},
		{"A1 1; C1 3; A2 x; B2 y; C2 z; D2 w", "A1:C2", "A1", "A1 1; C1 3; A2 1; C2 3; D2 w"},
		// Each copy is made of the first row, not of the one above it.
		{"A1 =A2+A$2+$A2+$A$2", "A1:A3", "A1", "A1 =A2+A$2+$A2+$A$2; A2 =A3+A$2+$A3+$A$2; A3 =A4+A$2+$A4+$A$2"},
		{"A1 1; B1 =A1*2; A2 7", "B1:B3", "A1", "A1 1; B1 =A1*2; A2 7; B2 =A2*2; B3 =A3*2"},
		{"A97 =A98", "A97:A99", "A1", "A97 =A98; A98 =A99; A99 =#REF!"},
		{"A97 =SUM(A97:B98)", "A97:A99", "A1", "A97 =SUM(A97:B98); A98 =SUM(A98:B99); A99 =SUM(#REF!)"},
		{"A1 =A1; B1 =C1; C1 =B1", "A1:C2", "A1", "A1 =A1; B1 =C1; C1 =B1; A2 =A2; B2 =C2; C2 =B2"},
		// All others are as they were, also those that look at what is written over.
		{"A1 1; B1 =A2; A2 2; C3 = SUM( A1:A2 )", "A1:A2", "A1", "A1 1; B1 =A2; A2 1; C3 = SUM( A1:A2 )"},
	})
}

// cells is a sheet of so many, 20 in a row, all with one text.
func cells(many int, text string) (l []api.Filled) {
	for i := range many {
		l = append(l, api.Filled{Cell: api.Cell{Col: i%20 + 1, Row: i/20 + 1}, Text: text})
	}
	return l
}

// lower is a sheet so many rows further down.
func lower(l []api.Filled, by int) []api.Filled {
	for i := range l {
		l[i].Cell.Row += by
	}
	return l
}

// holdCount asks for so many cells, or, if they are too many, for an error.
func (c call) holdCount(t *testing.T, l []api.Filled, b, to string, want int) {
	t.Helper()
	if want > api.MaxCells {
		c.refuse(t, l, box(b), at(to), api.ErrFull)
		return
	}
	if got, err := c.do(l, box(b), at(to)); err != nil || len(got) != want || graph.Check(got) != nil {
		t.Errorf("%s of %d cells: %s to %s: %d, %v; want %d", c.name, len(l), b, to, len(got), err, want)
	}
}

func TestC1TooMany(t *testing.T) {
	copied.holdCount(t, cells(200, "x"), "A1:A1", "A11", 201)
	copied.holdCount(t, cells(199, "x"), "A1:A1", "A11", 200)
	copied.holdCount(t, cells(190, "x"), "A1:J1", "A11", 200)
	copied.holdCount(t, cells(190, "x"), "A1:K1", "A11", 201)
	copied.holdCount(t, cells(190, "x"), "A1:K1", "A1", 190)
	copied.holdCount(t, cells(200, "x"), "A1:T9", "A2", 200)
	copied.holdCount(t, cells(200, "x"), "A1:T9", "B2", 209)
	copied.holdCount(t, cells(200, "x"), "A11:Z20", "A30", 200)
	// Cells that are made blank make room.
	copied.holdCount(t, cells(200, "x"), "T1:U1", "A1", 199)
	copied.holdCount(t, cells(200, "x"), "T1:U2", "T10", 201)
	copied.holdCount(t, cells(200, "x"), "A1:T10", "A20", 400)
	copied.holdCount(t, append(sheet("A1 x"), lower(cells(199, "x"), 2)...), "A1:A2", "B2", 200)
	copied.holdCount(t, append(sheet("A1 x"), lower(cells(199, "x"), 2)...), "A1:A2", "B1", 201)
	// What is carried is no more than it was.
	carried.holdCount(t, cells(200, "x"), "A1:T10", "A20", 200)
	carried.holdCount(t, cells(200, "x"), "A1:T10", "B2", 200)
	carried.holdCount(t, cells(200, "=A1"), "A1:A1", "A2", 199)
	carried.holdCount(t, cells(200, "=A1"), "A11:Z20", "A1", 0)
}

func TestC2TooMany(t *testing.T) {
	down.holdCount(t, cells(20, "x"), "A1:T10", "A1", 200)
	down.holdCount(t, cells(20, "x"), "A1:T11", "A1", 220)
	down.holdCount(t, cells(20, "x"), "A1:Z10", "A1", 200)
	down.holdCount(t, cells(2, "x"), "A1:B99", "A1", 198)
	down.holdCount(t, cells(3, "x"), "A1:C99", "A1", 297)
	down.holdCount(t, cells(200, "x"), "A1:T10", "A1", 200)
	down.holdCount(t, cells(200, "x"), "A10:A11", "A1", 201)
	down.holdCount(t, cells(200, "x"), "A1:T1", "A1", 200)
	// Only what stands there at last counts: first rows come to be full, later ones blank.
	l := append(append(cells(10, "x"), sheet("K2 y")...), lower(cells(180, "z"), 10)...)
	down.holdCount(t, l, "A1:T19", "A1", 190)
	down.holdCount(t, l, "A1:T2", "A1", 200)
	down.holdCount(t, l, "A1:T3", "A1", 210)
}

// refsOf is a formula of ten times the ref, and of so many bytes of another kind.
func refsOf(ref string, bytes int) string {
	return "=" + strings.Repeat(ref+"+", 10) + `"` + strings.Repeat("x", bytes) + `"`
}

func TestC1TooLong(t *testing.T) {
	room := api.MaxText - len(refsOf("B10", 0))
	fits, full := refsOf("B9", room), refsOf("B9", room+1)
	longer := refsOf("B10", room)
	copied.hold(t, []boxCase{
		{"A1 " + fits, "A1:A1", "A2", "A1 " + fits + "; A2 " + longer},
		{"A1 " + full, "A1:A1", "A1", "A1 " + full},
		{"A1 " + full, "A1:A1", "B1", "A1 " + full + "; B1 " + refsOf("C9", room+1)},
		{"A1 " + full, "B1:B1", "A1", ""},
	})
	copied.refuse(t, sheet("A1 "+full), box("A1:A1"), at("A2"), api.ErrFull)
	copied.refuse(t, sheet("A1 1; B1 "+full+"; C1 2"), box("A1:C1"), at("A2"), api.ErrFull)
	carried.hold(t, []boxCase{
		{"A1 " + fits, "B9:B9", "B10", "A1 " + longer},
		{"A1 " + fits, "A1:B9", "A2", "A2 " + longer},
		{"A1 " + full, "A1:A1", "A2", "A2 " + full},
		{"A1 " + full, "B9:B9", "C9", "A1 " + refsOf("C9", room+1)},
		// A text that is written over is none any more.
		{"A10 " + full, "A8:B9", "A9", ""},
		{"A9 1; A10 " + full, "A9:B9", "A10", "A10 1"},
	})
	carried.refuse(t, sheet("A1 "+full), box("B9:B9"), at("B10"), api.ErrFull)
	carried.refuse(t, sheet("A1 "+full), box("A1:B9"), at("A2"), api.ErrFull)
	carried.refuse(t, sheet("A1 1; Z99 "+full), box("A1:B9"), at("A2"), api.ErrFull)
}

func TestC2TooLong(t *testing.T) {
	room := api.MaxText - len(refsOf("B10", 0))
	fits, full := refsOf("B8", room), refsOf("B8", room+1)
	down.hold(t, []boxCase{
		{"A1 " + fits, "A1:A3", "A1", "A1 " + fits + "; A2 " + refsOf("B9", room) + "; A3 " + refsOf("B10", room)},
		{"A1 " + full, "A1:A2", "A1", "A1 " + full + "; A2 " + refsOf("B9", room+1)},
		{"A1 " + full, "A1:A1", "A1", "A1 " + full},
		{"A2 " + full, "A1:A9", "A1", ""},
	})
	down.refuse(t, sheet("A1 "+full), box("A1:A3"), at("A1"), api.ErrFull)
	down.refuse(t, sheet("A1 1; B1 "+full), box("A1:B3"), at("A1"), api.ErrFull)
	// Nine rows further on the refs fall off, and that is longer still.
	lost := refsOf("B90", api.MaxText-len(refsOf("#REF!", 0))+1)
	down.refuse(t, sheet("A1 "+lost), box("A1:A11"), at("A1"), api.ErrFull)
	if _, err := fill.Down(sheet("A1 "+lost), box("A1:A10")); err != nil {
		t.Errorf("Down to the last row: %v", err)
	}
}

// noBoxes are those that have a corner that is no cell, or corners on the wrong sides.
func noBoxes() []api.Box {
	boxes := []api.Box{
		{}, {From: at("A1")}, {To: at("A1")},
		box("B1:A1"), box("A2:A1"), box("B2:A1"), box("A2:B1"), box("B1:A2"),
		box("A1:Z100"), box("A0:A1"), box("A1:A0"), box("A100:A100"),
	}
	for _, wrong := range []int{math.MinInt, -1, 0, 27, math.MaxInt} {
		boxes = append(boxes,
			api.Box{From: api.Cell{Col: wrong, Row: 1}, To: at("C3")},
			api.Box{From: at("A1"), To: api.Cell{Col: wrong, Row: 3}},
			api.Box{From: api.Cell{Col: wrong, Row: 1}, To: api.Cell{Col: wrong, Row: 3}})
	}
	for _, wrong := range []int{math.MinInt, -1, 0, 100, math.MaxInt} {
		boxes = append(boxes,
			api.Box{From: api.Cell{Col: 1, Row: wrong}, To: at("C3")},
			api.Box{From: at("A1"), To: api.Cell{Col: 3, Row: wrong}},
			api.Box{From: api.Cell{Col: 1, Row: wrong}, To: api.Cell{Col: 3, Row: wrong}})
	}
	return append(boxes, api.Box{From: api.Cell{Col: math.MinInt, Row: math.MinInt}, To: api.Cell{Col: math.MaxInt, Row: math.MaxInt}})
}

// An empty sheet has the same bounds, and one that is full, or has long texts.
func TestRange(t *testing.T) {
	sheets := [][]api.Filled{nil, sheet("A1 1"), sheet("A1 =A1; B2 2"), cells(200, "=A1"), sheet("A1 " + refsOf("B9", 150))}
	for _, l := range sheets {
		for _, b := range noBoxes() {
			for _, of := range calls {
				for _, to := range []api.Cell{at("A1"), at("Z99"), b.From, {}, {Col: math.MaxInt, Row: math.MinInt}} {
					of.refuse(t, l, b, to, api.ErrRange)
				}
			}
		}
		for _, of := range calls[:2] {
			for _, wrong := range []int{math.MinInt, math.MinInt + 1, -1, 0, 100, math.MaxInt - 1, math.MaxInt} {
				for _, b := range []string{"A1:A1", "A1:B2", "Z99:Z99", "A1:Z99"} {
					of.refuse(t, l, box(b), api.Cell{Col: wrong, Row: 1}, api.ErrRange)
					of.refuse(t, l, box(b), api.Cell{Col: 1, Row: wrong}, api.ErrRange)
					of.refuse(t, l, box(b), api.Cell{Col: wrong, Row: wrong}, api.ErrRange)
				}
			}
			of.refuse(t, l, box("A1:A1"), api.Cell{Col: 27, Row: 1}, api.ErrRange)
			// Cells that come to be none may be blank.
			for _, c := range [][2]string{{"A1:Z1", "B1"}, {"A1:A99", "A2"}, {"C3:D4", "Z1"}, {"C3:D4", "A99"}, {"C3:D4", "Z99"}, {"A1:Z99", "B2"}, {"A1:B1", "Z9"}} {
				of.refuse(t, l, box(c[0]), at(c[1]), api.ErrRange)
			}
		}
	}
	for _, of := range calls {
		for _, c := range [][2]string{{"A1:Z1", "A99"}, {"A1:A50", "Z50"}, {"C3:D4", "Y98"}, {"Y98:Z99", "A1"}, {"A9:Z99", "A9"}, {"Z99:Z99", "Z99"}} {
			if _, err := of.do(sheet("A9 1; B9 =A9"), box(c[0]), at(c[1])); err != nil {
				t.Errorf("%s: %s to %s: %v", of.name, c[0], c[1], err)
			}
		}
	}
}

// What is wrong with a sheet is told ahead of what is wrong with the box and the cell, and also where its cell would be written over.
func TestFaults(t *testing.T) {
	long := strings.Repeat("x", api.MaxText+1)
	for _, c := range []struct {
		list []api.Filled
		want api.Errno
	}{
		{cells(api.MaxCells+1, "="), api.ErrFull},
		{[]api.Filled{{Text: "1"}}, api.ErrRange},
		{[]api.Filled{{Cell: api.Cell{Col: 27, Row: 1}, Text: ""}}, api.ErrRange},
		{[]api.Filled{{Cell: api.Cell{Col: 1, Row: math.MaxInt}, Text: "="}}, api.ErrRange},
		{sheet("B1 1; A1 2"), api.ErrOrder},
		{sheet("A1 1; A1 2"), api.ErrOrder},
		{sheet("A1 1; A99 "), api.ErrShape},
		{sheet("A1 " + long), api.ErrFull},
		{sheet("A1 =" + long), api.ErrFull},
		{sheet("Z99 ="), api.ErrSyntax},
		{sheet("B2 =A1:B2"), api.ErrSyntax},
		{sheet("A1 1; B1 =A100; C1 "), api.ErrSyntax},
		{sheet("A1 =" + strings.Repeat("-", api.MaxDepth+1) + "A1"), api.ErrSyntax},
	} {
		for _, of := range calls {
			for _, b := range []api.Box{box("A1:Z99"), box("C3:D4"), box("A1:A1"), box("B2:A1"), {}} {
				for _, to := range []api.Cell{at("A1"), at("B2"), at("Z99"), {}} {
					of.refuse(t, c.list, b, to, c.want)
				}
			}
		}
	}
}

// shown: what cells come to, each by the name that it has behind a move of a box.
func shown(t *testing.T, l []api.Filled, from api.Box, cols, rows int) map[string]api.Value {
	t.Helper()
	all, err := settle.All(l)
	if err != nil {
		t.Fatalf("All(%s): %v", listed(l), err)
	}
	values := map[string]api.Value{}
	for _, s := range all {
		if inside(s.Cell, from) {
			s.Cell.Col += cols
			s.Cell.Row += rows
		}
		values[named(s.Cell)] = s.Value
	}
	return values
}

func inside(c api.Cell, b api.Box) bool {
	return c.Col >= b.From.Col && c.Col <= b.To.Col && c.Row >= b.From.Row && c.Row <= b.To.Row
}

// What is carried means what it meant: all cells come to what they came to, if nothing is written over. What is copied by its side, with all that it looks at, comes to the same.
func TestC1Means(t *testing.T) {
	l := sheet(`E5 1; F5 =E5+$E$7; G5 =SUM(E5:F7,G7:G6); E6 x; F6 =E6&"A1"; G6 =F5*2; E7 7; F7 =COUNT(E5:E7); G7 =MAX(F7:E5)-$G6; K9 =SUM(E5:G7)&$F6`)
	relative := sheet(`E5 1; F5 =E5+E7; G5 =SUM(E5:F7,G7:G6); E6 x; F6 =E6&"A1"; G6 =F5*2; E7 7; F7 =COUNT(E5:E7); G7 =MAX(F7:E5)-G6`)
	from := box("E5:G7")
	for _, to := range []string{"E5", "F6", "D4", "E6", "A1", "X97", "E8", "H5", "B2", "H1", "A90"} {
		cols, rows := at(to).Col-5, at(to).Row-5
		got, err := fill.Carry(l, from, at(to))
		if err != nil {
			t.Fatalf("Carry to %s: %v", to, err)
		}
		if got, want := shown(t, got, from, 0, 0), shown(t, l, from, cols, rows); fmt.Sprint(got) != fmt.Sprint(want) {
			t.Errorf("behind Carry to %s: %v; want %v", to, got, want)
		}
		got, err = fill.Copy(relative, from, at(to))
		if err != nil {
			t.Fatalf("Copy to %s: %v", to, err)
		}
		values := shown(t, got, from, 0, 0)
		for name, want := range shown(t, relative, from, cols, rows) {
			if values[name] != want {
				t.Errorf("behind Copy to %s: %s is %v; want %v", to, name, values[name], want)
			}
		}
	}
}

// Down is Copy of the first row, to one row after the other.
func TestC2IsCopy(t *testing.T) {
	l := sheet("B2 =A1+$A$1+C$3; C2 =SUM(A1:B2); D2 7; C3 x; E3 y; B4 z; D5 =B2; C9 = B4 ")
	want := l
	for row := 2; row <= 60; row++ {
		got, err := fill.Down(l, api.Box{From: at("B2"), To: api.Cell{Col: 5, Row: row}})
		if err != nil || listed(got) != listed(want) {
			t.Fatalf("Down to row %d: %s, %v; want %s", row, listed(got), err, listed(want))
		}
		if want, err = fill.Copy(want, box("B2:E2"), api.Cell{Col: 2, Row: row + 1}); err != nil {
			t.Fatalf("Copy to row %d: %v", row+1, err)
		}
	}
}

// Nothing that is handed in is written into, or handed out, and what lies behind a list's length is not looked at.
func TestFresh(t *testing.T) {
	const text, rest = "A1 =A2; B1 2; A2 = B1 ; C3 4", "; Z99 5; A1 ; A1 ="
	for _, of := range calls {
		for _, c := range [][2]string{{"A1:B2", "B2"}, {"A1:A3", "A1"}, {"B1:B1", "A2"}, {"X90:Y91", "X90"}, {"X90:Y98", "X91"}} {
			behind := sheet(text + rest)
			l := behind[:4]
			first, err := of.do(l, box(c[0]), at(c[1]))
			want := listed(first)
			if err != nil || strings.Contains(want, "Z99") {
				t.Errorf("%s %v: %s, %v", of.name, c, want, err)
			}
			again, errAgain := of.do(l, box(c[0]), at(c[1]))
			if listed(again) != want || errAgain != err {
				t.Errorf("%s %v answers otherwise the second time: %s; %s", of.name, c, listed(again), want)
			}
			for i := range first[:cap(first)] {
				first[:cap(first)][i] = api.Filled{Text: "spoilt"}
			}
			if got := listed(behind); got != text+rest {
				t.Errorf("%s %v: what was handed in is %s", of.name, c, got)
			}
			if listed(again) != want {
				t.Errorf("%s %v: two answers share memory", of.name, c)
			}
		}
	}
}
