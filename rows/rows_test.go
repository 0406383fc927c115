package rows_test

import (
	"fmt"
	"math"
	"slices"
	"strconv"
	"strings"
	"testing"

	"sccsettle/api"
	"sccsettle/graph"
	"sccsettle/plain"
	"sccsettle/rows"
	"sccsettle/settle"
)

// at reads a cell's name, without the program's own words for it.
func at(name string) api.Cell {
	row, err := strconv.Atoi(name[1:])
	if err != nil {
		panic(name)
	}
	return api.Cell{Col: int(name[0]-'A') + 1, Row: row}
}

func named(c api.Cell) string { return fmt.Sprintf("%c%d", 'A'+c.Col-1, c.Row) }

// sheet reads cells with their texts: "A1 =B1; B1 1".
func sheet(text string) (l []api.Filled) {
	if text == "" {
		return nil
	}
	for _, word := range strings.Split(text, "; ") {
		name, of, _ := strings.Cut(word, " ")
		l = append(l, api.Filled{Cell: at(name), Text: of})
	}
	return l
}

func listed(l []api.Filled) string {
	var words []string
	for _, f := range l {
		words = append(words, named(f.Cell)+" "+f.Text)
	}
	return strings.Join(words, "; ")
}

// call is one of the three, all of which are given two numbers.
type call struct {
	name string
	do   func(l []api.Filled, row bool, a, b int) ([]api.Filled, error)
}

var (
	insert = call{"Insert", rows.Insert}
	remove = call{"Delete", rows.Delete}
	swap   = call{"Swap", rows.Swap}
	calls  = []call{insert, remove, swap}
)

// lineCase: rows (else columns), and two numbers.
type lineCase struct {
	sheet string
	row   bool
	a, b  int
	want  string
}

func (c lineCase) String() string {
	return fmt.Sprintf("%.90s: rows %v, %d, %d", c.sheet, c.row, c.a, c.b)
}

func (c call) hold(t *testing.T, cases []lineCase) {
	t.Helper()
	for _, of := range cases {
		got, err := c.do(sheet(of.sheet), of.row, of.a, of.b)
		if err != nil || listed(got) != of.want {
			t.Errorf("%s of %v: %s, %v; want %s", c.name, of, listed(got), err, of.want)
		}
		if err := graph.Check(got); err != nil {
			t.Errorf("%s of %v is no sheet: %v", c.name, of, err)
		}
	}
}

// refuse asks for an error, and for no sheet beside it.
func (c call) refuse(t *testing.T, l []api.Filled, row bool, a, b int, want api.Errno) {
	t.Helper()
	if got, err := c.do(l, row, a, b); len(got) != 0 || plain.Told(err) != want {
		t.Errorf("%s of %.90s: rows %v, %d, %d: %.90s, %v; want %v", c.name, listed(l), row, a, b, listed(got), err, want)
	}
}

func TestW1Insert(t *testing.T) {
	insert.hold(t, []lineCase{
		{"", true, 1, 99, ""},
		{"", false, 26, 26, ""},
		{"A1 1; A2 2; A3 3", true, 2, 1, "A1 1; A3 2; A4 3"},
		{"A1 1; A2 2; A3 3", true, 1, 4, "A5 1; A6 2; A7 3"},
		{"A1 1; A2 2; A3 3", true, 4, 99, "A1 1; A2 2; A3 3"},
		{"A1 1; A2 2; A3 3", true, 2, 0, "A1 1; A2 2; A3 3"},
		{"A1 1; A2 2; A3 3", false, 2, 5, "A1 1; A2 2; A3 3"},
		{"A1 1; B1 2; C1 3", false, 2, 1, "A1 1; C1 2; D1 3"},
		{"A1 1; B1 2; C1 3", false, 1, 23, "X1 1; Y1 2; Z1 3"},
		{"A1 1; B1 2; C1 3", true, 1, 98, "A99 1; B99 2; C99 3"},
		{"C1 1; A2 2; C2 3; A3 4", false, 2, 2, "E1 1; A2 2; E2 3; A3 4"},
		{"C1 1; A2 2; C2 3; A3 4", true, 2, 2, "C1 1; A4 2; C4 3; A5 4"},
		{"Z98 x", true, 98, 1, "Z99 x"},
		{"Z99 x", true, 99, 0, "Z99 x"},
		{"Z99 x", false, 26, 0, "Z99 x"},
		// Formulas stay with what they look at, wherever they stand themselves.
		{"A1 =A3; A2 =A1; A3 =A2", true, 2, 1, "A1 =A4; A3 =A1; A4 =A3"},
		{"A1 =C1; B1 =A1; C1 =B1", false, 2, 2, "A1 =E1; D1 =A1; E1 =D1"},
		{"A1 =A1", true, 1, 1, "A2 =A2"},
		{"A1 =SUM(A1:A5)+B$2", true, 2, 1, "A1 =SUM(A1:A6)+B$3"},
		{"A9 =SUM(B1:D1)+$C2", false, 3, 1, "A9 =SUM(B1:E1)+$D2"},
		{"A1 =SUM(A9:A2)", true, 5, 3, "A1 =SUM(A12:A2)"},
		{"C5 =A1+B$2", true, 4, 2, "C7 =A1+B$2"},
		// Refs that fall off are lost; cells may not be.
		{"A1 =Z99", true, 2, 1, "A1 =#REF!"},
		{"A1 =Z99+Y98", false, 2, 1, "A1 =#REF!+Z98"},
		{"A1 =SUM(A1:A99)", true, 2, 1, "A1 =SUM(#REF!)"},
		{"A1 =SUM(B1:Z1)", false, 3, 1, "A1 =SUM(#REF!)"},
		// What only looks like a ref, or stands in no formula.
		{`A1 B2; A2 ="B2"&B3; B2 '=B3; B3 #REF!`, true, 2, 1, `A1 B2; A3 ="B2"&B4; B3 '=B3; B4 #REF!`},
		{"A2  =A1; B2 A1:B2", true, 1, 1, "A3  =A1; B3 A1:B2"},
	})
}

// A formula that is the one that it was keeps its text; one that is another one is printed, with nothing in it that need not be.
func TestW1Written(t *testing.T) {
	const untidy = `= ( A1 ) + ( (2*3) ) & "a ""b"" A9"`
	insert.hold(t, []lineCase{
		{"B2 " + untidy, true, 2, 3, "B5 " + untidy},
		{"B2 " + untidy, false, 2, 3, "E2 " + untidy},
		{"B2 " + untidy, true, 1, 0, "B2 " + untidy},
		{"B2 " + untidy, true, 1, 1, `B3 =A2+2*3&"a ""b"" A9"`},
		{"B2 " + untidy, false, 1, 1, `C2 =B1+2*3&"a ""b"" A9"`},
		{"A1 = 1; B1 =(2); C1 = #REF!; D1 = NONE( )", true, 1, 5, "A6 = 1; B6 =(2); C6 = #REF!; D6 = NONE( )"},
		{"A1 = A1; B1 = A2", true, 2, 1, "A1 = A1; B1 =A3"},
		{"A1 = - ( - A2 )", true, 2, 1, "A1 =--A3"},
		{"A1 = SUM( A1:A2 , (1-2) )-( 3-(A9) )", true, 2, 1, "A1 =SUM(A1:A3,1-2)-(3-A10)"},
	})
	remove.hold(t, []lineCase{
		{"B2 " + untidy, true, 3, 97, "B2 " + untidy},
		{"B3 " + untidy, true, 2, 1, "B2 " + untidy},
		{"B3 " + untidy, true, 1, 0, "B3 " + untidy},
		{"B3 " + untidy, true, 1, 1, `B2 =#REF!+2*3&"a ""b"" A9"`},
		{"A1 = A1; B1 = A3", true, 2, 1, "A1 = A1; B1 =A2"},
		{"A1 = A1; B1 = SUM( A1:A3 )", true, 2, 1, "A1 = A1; B1 =SUM(A1:A2)"},
	})
}

func TestW1Delete(t *testing.T) {
	remove.hold(t, []lineCase{
		{"", true, 1, 99, ""},
		{"", false, 26, 26, ""},
		{"A1 1; A2 2; A3 3", true, 2, 1, "A1 1; A2 3"},
		{"A1 1; A2 2; A3 3", true, 1, 2, "A1 3"},
		{"A1 1; A2 2; A3 3", true, 3, 1, "A1 1; A2 2"},
		{"A1 1; A2 2; A3 3", true, 4, 99, "A1 1; A2 2; A3 3"},
		{"A1 1; A2 2; A3 3", true, 2, 0, "A1 1; A2 2; A3 3"},
		{"A1 1; A2 2; A3 3", true, 1, 99, ""},
		{"A1 1; A2 2; A3 3", true, 2, 99, "A1 1"},
		{"A1 1; A2 2; A3 3", false, 1, 1, ""},
		{"A1 1; A2 2; A3 3", false, 2, 25, "A1 1; A2 2; A3 3"},
		{"A1 1; B1 2; C1 3", false, 2, 1, "A1 1; B1 3"},
		{"A1 1; B1 2; C1 3", false, 1, 2, "A1 3"},
		{"A1 1; B1 2; C1 3", false, 1, 26, ""},
		{"C1 1; A2 2; C2 3; A3 4", false, 1, 2, "A1 1; A2 3"},
		{"C1 1; A2 2; C2 3; A3 4", true, 2, 1, "C1 1; A2 4"},
		{"Z99 x", true, 98, 1, "Z98 x"},
		{"Z99 x", true, 1, 98, "Z1 x"},
		{"Z99 x", true, 99, 1, ""},
		{"Z99 x", false, 1, 25, "A99 x"},
		{"Z99 x", false, 26, 1, ""},
		{"A1 =A3; A2 =A1; A3 =A2", true, 2, 1, "A1 =A2; A2 =#REF!"},
		{"A1 =C1; B1 =A1; C1 =B1", false, 1, 1, "A1 =#REF!; B1 =A1"},
		{"A1 =SUM(A1:A5)+B$2; A3 =SUM(A1:A5)+B$2", true, 1, 2, "A1 =SUM(A1:A3)+#REF!"},
		{"A1 =SUM(A2:A5)", true, 2, 4, "A1 =SUM(#REF!)"},
		{"A1 =SUM(E1:C1)+$D$4", false, 3, 1, "A1 =SUM(D1:C1)+$C$4"},
		{"A5 =A1+$B$2", true, 3, 1, "A4 =A1+$B$2"},
		{`A1 B2; A2 ="B2"&B3; B2 '=B3; B3 #REF!`, true, 1, 1, `A1 ="B2"&B2; B1 '=B3; B2 #REF!`},
	})
}

// A cell that would be none is an error, even where all others stay.
func TestW1InsertFallsOff(t *testing.T) {
	for _, c := range []lineCase{
		{"A99 1", true, 1, 1, ""},
		{"A99 1", true, 99, 1, ""},
		{"A99 1", true, 99, 99, ""},
		{"A1 1", true, 1, 99, ""},
		{"A1 1; A2 2; A50 3", true, 50, 50, ""},
		{"A1 1; Z1 2; A2 3", false, 26, 1, ""},
		{"A1 1", false, 1, 26, ""},
		{"C7 =A1", false, 2, 24, ""},
	} {
		insert.refuse(t, sheet(c.sheet), c.row, c.a, c.b, api.ErrFull)
	}
	insert.hold(t, []lineCase{
		{"A1 1; A2 2; A50 3", true, 50, 49, "A1 1; A2 2; A99 3"},
		{"A1 1", true, 1, 98, "A99 1"},
		{"A1 1", false, 1, 25, "Z1 1"},
		{"C7 =A1", false, 2, 23, "Z7 =A1"},
		{"A99 1", false, 1, 25, "Z99 1"},
	})
}

// refsOf is a formula of ten times the ref, and of so many bytes of another kind.
func refsOf(ref string, bytes int) string {
	return "=" + strings.Repeat(ref+"+", 10) + `"` + strings.Repeat("x", bytes) + `"`
}

func TestW1TextTooLong(t *testing.T) {
	room := api.MaxText - len(refsOf("B10", 0))
	fits, full := refsOf("B9", room), refsOf("B9", room+1)
	insert.hold(t, []lineCase{
		{"A1 " + fits, true, 2, 1, "A1 " + refsOf("B10", room)},
		{"A1 " + full, true, 10, 1, "A1 " + full},
	})
	insert.refuse(t, sheet("A1 "+full), true, 2, 1, api.ErrFull)
	insert.refuse(t, sheet("A1 1; B1 =A1; C1 "+full+"; A2 3"), true, 9, 1, api.ErrFull)
	room = api.MaxText - len(refsOf("#REF!", 0))
	fits, full = refsOf("B9", room), refsOf("B9", room+1)
	remove.hold(t, []lineCase{
		{"A1 " + fits, true, 9, 1, "A1 " + refsOf("#REF!", room)},
		{"A1 " + full, true, 8, 1, "A1 " + refsOf("B8", room+1)},
		// A cell that goes takes its text with it.
		{"A1 1; B9 " + full, true, 9, 1, "A1 1"},
	})
	remove.refuse(t, sheet("A1 "+full), true, 9, 1, api.ErrFull)
	remove.refuse(t, sheet("A1 "+full+"; A9 1"), true, 9, 1, api.ErrFull)
	remove.refuse(t, sheet("A1 "+full), false, 2, 1, api.ErrFull)
	// Blanks that are not printed make room.
	blanks := "=" + strings.Repeat(" ", 199-len("A9")) + "A9"
	insert.hold(t, []lineCase{{"A1 " + blanks, true, 9, 1, "A1 =A10"}})
	constant := strings.Repeat("A9 ", 66) + "A9"
	insert.hold(t, []lineCase{{"A9 " + constant, true, 9, 1, "A10 " + constant}})
}

// The bounds are those of rows, or of columns; a sheet without formulas, and an empty one, has them, too.
func TestW1Range(t *testing.T) {
	for _, text := range []string{"", "A1 1", "A1 =A1"} {
		for _, row := range []bool{true, false} {
			most := map[bool]int{true: 99, false: 26}[row]
			for _, from := range []int{math.MinInt, -1, 0, 1, 2, 25, 26, 27, 98, 99, 100, math.MaxInt} {
				for _, many := range []int{math.MinInt, -1, 0, 1, 26, 27, 99, 100, math.MaxInt} {
					holdRange(t, text, row, from, many, from >= 1 && from <= most && many >= 0 && many <= most)
				}
			}
		}
	}
}

func holdRange(t *testing.T, text string, row bool, from, many int, may bool) {
	t.Helper()
	if !may {
		insert.refuse(t, sheet(text), row, from, many, api.ErrRange)
		remove.refuse(t, sheet(text), row, from, many, api.ErrRange)
		return
	}
	if _, err := rows.Delete(sheet(text), row, from, many); err != nil {
		t.Errorf("Delete of %s: rows %v, %d, %d: %v", text, row, from, many, err)
	}
	_, err := rows.Insert(sheet(text), row, from, many)
	most := map[bool]int{true: 99, false: 26}[row]
	if off := text != "" && from == 1 && many == most; off != (plain.Told(err) == api.ErrFull) || !off && err != nil {
		t.Errorf("Insert of %s: rows %v, %d, %d: %v", text, row, from, many, err)
	}
}

func TestW2Swap(t *testing.T) {
	swap.hold(t, []lineCase{
		{"", true, 1, 99, ""},
		{"", false, 26, 1, ""},
		{"A1 1; A2 2; A3 3", true, 1, 3, "A1 3; A2 2; A3 1"},
		{"A1 1; A2 2; A3 3", true, 3, 1, "A1 3; A2 2; A3 1"},
		{"A1 1; A2 2; A3 3", true, 2, 2, "A1 1; A2 2; A3 3"},
		{"A1 1; A2 2; A3 3", true, 4, 5, "A1 1; A2 2; A3 3"},
		{"A1 1; A2 2; A3 3", true, 2, 99, "A1 1; A3 3; A99 2"},
		{"A1 1; A2 2; A3 3", false, 1, 26, "Z1 1; Z2 2; Z3 3"},
		{"A1 1; C1 2; B2 3", true, 1, 2, "B1 3; A2 1; C2 2"},
		{"A1 1; C1 2; B2 3", false, 1, 2, "B1 1; C1 2; A2 3"},
		{"A1 1; C1 2; B2 3", false, 1, 3, "A1 2; C1 1; B2 3"},
		{"A1 1; C1 2; B2 3", false, 2, 3, "A1 1; B1 2; C2 3"},
		{"A1 1; B1 2; C1 3; D1 4", false, 4, 2, "A1 1; B1 4; C1 3; D1 2"},
		{"Z99 x", true, 99, 1, "Z1 x"},
		{"Z99 x", false, 26, 1, "A99 x"},
		// No formula is another one, nor written otherwise: neither those that go, nor those that look at them.
		{"A1 =A2; A2 = ( A1 ); A3 =SUM(A$1:A2)", true, 1, 2, "A1 = ( A1 ); A2 =A2; A3 =SUM(A$1:A2)"},
		{"A1 =A1; B1 = $B$1 ; C1 =A1&B1", false, 1, 2, "A1 = $B$1 ; B1 =A1; C1 =A1&B1"},
	})
}

func TestW2Range(t *testing.T) {
	for _, text := range []string{"", "A1 1", "A1 =A1; B2 2"} {
		for _, row := range []bool{true, false} {
			most := map[bool]int{true: 99, false: 26}[row]
			for _, wrong := range []int{math.MinInt, -1, 0, most + 1, 100, math.MaxInt} {
				for _, other := range []int{1, 2, most, wrong} {
					swap.refuse(t, sheet(text), row, wrong, other, api.ErrRange)
					swap.refuse(t, sheet(text), row, other, wrong, api.ErrRange)
				}
			}
			for _, a := range []int{1, 2, 26, most} {
				if _, err := rows.Swap(sheet(text), row, a, most); err != nil {
					t.Errorf("Swap of %s: rows %v, %d, %d: %v", text, row, a, most, err)
				}
			}
		}
	}
}

// What is wrong with a sheet is told ahead of what is wrong with the numbers, and also where its cell would go, or fall off.
func TestFaults(t *testing.T) {
	long := strings.Repeat("x", api.MaxText+1)
	var many []api.Filled
	for i := range api.MaxCells + 1 {
		many = append(many, api.Filled{Cell: api.Cell{Col: i%26 + 1, Row: i/26 + 1}, Text: "="})
	}
	for _, c := range []struct {
		list []api.Filled
		want api.Errno
	}{
		{many, api.ErrFull},
		{[]api.Filled{{Text: "1"}}, api.ErrRange},
		{[]api.Filled{{Cell: api.Cell{Col: 27, Row: 1}, Text: ""}}, api.ErrRange},
		{[]api.Filled{{Cell: api.Cell{Col: 1, Row: math.MaxInt}, Text: "="}}, api.ErrRange},
		{sheet("B1 1; A1 2"), api.ErrOrder},
		{sheet("A1 1; A1 2"), api.ErrOrder},
		{sheet("A1 1; A99 "), api.ErrShape},
		{sheet("A1 " + long), api.ErrFull},
		{sheet("A1 =" + long), api.ErrFull},
		{sheet("Z99 ="), api.ErrSyntax},
		{sheet("A1 1; B1 =A100; C1 "), api.ErrSyntax},
		{sheet("A1 =" + strings.Repeat("-", api.MaxDepth+1) + "A1"), api.ErrSyntax},
	} {
		for _, of := range calls {
			for _, row := range []bool{true, false} {
				for _, numbers := range [][2]int{{1, 1}, {1, 26}, {0, 0}, {100, 1}, {1, -1}, {math.MinInt, math.MaxInt}} {
					of.refuse(t, c.list, row, numbers[0], numbers[1], c.want)
				}
			}
		}
	}
}

// A full sheet may be changed as any other one.
func TestFullSheet(t *testing.T) {
	var l []api.Filled
	for i := range api.MaxCells {
		l = append(l, api.Filled{Cell: api.Cell{Col: i%25 + 1, Row: i/25 + 1}, Text: "=A1"})
	}
	for _, of := range calls {
		for _, row := range []bool{true, false} {
			got, err := of.do(l, row, 2, 1)
			want := api.MaxCells
			if of.name == "Delete" {
				want = map[bool]int{true: 175, false: 192}[row]
			}
			if err != nil || len(got) != want || graph.Check(got) != nil {
				t.Errorf("%s of a full sheet: %d cells, %v", of.name, len(got), err)
			}
		}
	}
}

// shown: the values of a sheet, each where its cell goes.
func shown(t *testing.T, l []api.Filled, row bool, at, by int) string {
	t.Helper()
	all, err := settle.All(l)
	if err != nil {
		t.Fatalf("All(%s): %v", listed(l), err)
	}
	var words []string
	for _, s := range all {
		if row && s.Cell.Row >= at {
			s.Cell.Row += by
		} else if !row && s.Cell.Col >= at {
			s.Cell.Col += by
		}
		words = append(words, fmt.Sprint(named(s.Cell), s.Value))
	}
	return strings.Join(words, " ")
}

// What goes means what it meant: all cells come to what they came to, though rows and columns of nothing come in between.
func TestW1Means(t *testing.T) {
	l := sheet(`A1 1; B1 =A1+$A$3; C1 =SUM(A1:B3,C3:C2); A2 x; B2 =A2&"A1"; C2 =B$1*2; A3 7; B3 =COUNT(A1:A3); C3 =MAX(B3:A1)-$C2`)
	for _, row := range []bool{true, false} {
		for from := 1; from <= 5; from++ {
			for many := range 5 {
				in, err := rows.Insert(l, row, from, many)
				if err != nil {
					t.Fatalf("Insert: %v", err)
				}
				if got, want := shown(t, in, row, 1, 0), shown(t, l, row, from, many); got != want {
					t.Errorf("behind Insert of rows %v, %d, %d: %s; want %s", row, from, many, got, want)
				}
				out, err := rows.Delete(in, row, from, many)
				if err != nil || !slices.Equal(out, l) {
					t.Errorf("behind Insert and Delete of rows %v, %d, %d: %s, %v", row, from, many, listed(out), err)
				}
			}
		}
	}
}

// Nothing that is handed in is written into, or handed out, and what lies behind a list's length is not looked at.
func TestFresh(t *testing.T) {
	const text = "A1 =A2; B1 2; A2 = B1 ; C3 4"
	for _, of := range calls {
		for _, row := range []bool{true, false} {
			for _, numbers := range [][2]int{{1, 2}, {2, 1}, {9, 0}, {9, 9}, {9, 8}} {
				behind := sheet(text + "; Z99 5; A1 ; A1 =")
				l := behind[:4]
				first, err := of.do(l, row, numbers[0], numbers[1])
				want := listed(first)
				if strings.Contains(want, "Z99") {
					t.Errorf("%s %v reads behind the length: %s", of.name, numbers, want)
				}
				if again, errAgain := of.do(l, row, numbers[0], numbers[1]); listed(again) != want || errAgain != err {
					t.Errorf("%s %v answers otherwise the second time: %s; %s", of.name, numbers, listed(again), want)
				}
				for i := range first[:cap(first)] {
					first[:cap(first)][i] = api.Filled{Text: "spoilt"}
				}
				if got := listed(behind); got != text+"; Z99 5; A1 ; A1 =" {
					t.Errorf("%s %v: what was handed in is %s", of.name, numbers, got)
				}
			}
		}
	}
}
