package csv_test

import (
	"fmt"
	"math"
	"slices"
	"strconv"
	"strings"
	"testing"

	"sccsettle/api"
	"sccsettle/csv"
	"sccsettle/graph"
	"sccsettle/plain"
)

// at reads a cell's name, without the program's own words for it.
func at(name string) api.Cell {
	row, err := strconv.Atoi(name[1:])
	if err != nil {
		panic(name)
	}
	return api.Cell{Col: int(name[0]-'A') + 1, Row: row}
}

func named(c api.Cell) string { return fmt.Sprintf("%c%d", 'A'+c.Col-1, c.Row) }

// sheet reads cells with their texts: "A1 =B1; B1 1".
func sheet(text string) (l []api.Filled) {
	if text == "" {
		return nil
	}
	for _, word := range strings.Split(text, "; ") {
		name, of, _ := strings.Cut(word, " ")
		l = append(l, api.Filled{Cell: at(name), Text: of})
	}
	return l
}

func listed(l []api.Filled) string {
	var words []string
	for _, f := range l {
		words = append(words, named(f.Cell)+" "+f.Text)
	}
	return strings.Join(words, "; ")
}

// full has as many cells as may be, with one text.
func full(text string) (l []api.Filled) {
	for i := range api.MaxCells {
		l = append(l, api.Filled{Cell: api.Cell{Col: i%26 + 1, Row: i/26 + 1}, Text: text})
	}
	return l
}

// table has so many rows and fields, all of one text.
func table(rows, fields int, text string) (l [][]string) {
	for range rows {
		l = append(l, slices.Repeat([]string{text}, fields))
	}
	return l
}

func wantSheet(t *testing.T, rows [][]string, want string) {
	t.Helper()
	got, err := csv.Sheet(rows)
	if listed(got) != want || err != nil {
		t.Errorf("Sheet of %.90q: %.90q, %v; want %.90q", rows, listed(got), err, want)
	}
	if err := graph.Check(got); err != nil {
		t.Errorf("Sheet of %.90q is none: %v", rows, err)
	}
}

func refuseSheet(t *testing.T, rows [][]string, want api.Errno) {
	t.Helper()
	if got, err := csv.Sheet(rows); len(got) != 0 || plain.Told(err) != want {
		t.Errorf("Sheet of %.90q: %.90q, %v; want %v", rows, listed(got), err, want)
	}
}

func wantRows(t *testing.T, l []api.Filled, want [][]string) {
	t.Helper()
	if got, err := csv.Rows(l); !alike(got, want) || err != nil {
		t.Errorf("Rows of %.90q: %.90q, %v; want %.90q", listed(l), got, err, want)
	}
}

func refuseRows(t *testing.T, l []api.Filled, want api.Errno) {
	t.Helper()
	if got, err := csv.Rows(l); len(got) != 0 || plain.Told(err) != want {
		t.Errorf("Rows of %.90q: %.90q, %v; want %v", listed(l), got, err, want)
	}
}

func TestV2Sheet(t *testing.T) {
	for _, c := range []struct {
		rows [][]string
		want string
	}{
		{nil, ""},
		{[][]string{{}}, ""},
		{[][]string{{""}}, ""},
		{[][]string{{"", ""}, nil, {""}}, ""},
		{[][]string{{"a"}}, "A1 a"},
		{[][]string{{"a", "b"}, {"c", "d"}}, "A1 a; B1 b; A2 c; B2 d"},
		// Rows need not be as long as each other, and may have no field.
		{[][]string{{"a"}, {"b", "c", "d"}, {}, {"e", "f"}}, "A1 a; A2 b; B2 c; C2 d; A4 e; B4 f"},
		// Empty ones are blank.
		{[][]string{{"", "a", ""}, {""}, {"", "", "b"}}, "B1 a; C3 b"},
		{[][]string{{" ", "\n", "\x00"}}, "A1  ; B1 \n; C1 \x00"},
		// A field is a text as it stands.
		{[][]string{{"=A1+1", "007", "= B1 ", "\"x\"", "TRUE", "#DIV!"}}, "A1 =A1+1; B1 007; C1 = B1 ; D1 \"x\"; E1 TRUE; F1 #DIV!"},
		{[][]string{{" =", "a,b"}}, "A1  =; B1 a,b"},
	} {
		wantSheet(t, c.rows, c.want)
	}
}

// TestV2SheetEdges: the last row and the last column.
func TestV2SheetEdges(t *testing.T) {
	edge := append(make([]string, 25), "z")
	wantSheet(t, append(make([][]string, 98), edge), "Z99 z")
	wantSheet(t, [][]string{edge}, "Z1 z")
	wantSheet(t, append(make([][]string, 98), []string{"a"}), "A99 a")
	wantSheet(t, table(99, 26, ""), "")
	wantSheet(t, make([][]string, 99), "")
	wantSheet(t, table(99, 2, "x"), listed(grid(99, 2, "x")))
	wantSheet(t, table(8, 25, "x"), listed(grid(8, 25, "x")))
	// What is too many is so without a text, too.
	refuseSheet(t, make([][]string, 100), api.ErrRange)
	refuseSheet(t, table(100, 1, ""), api.ErrRange)
	refuseSheet(t, table(1, 27, ""), api.ErrRange)
	refuseSheet(t, append(table(98, 26, ""), make([]string, 27)), api.ErrRange)
	refuseSheet(t, [][]string{{"a"}, make([]string, 27), {"b"}}, api.ErrRange)
	refuseSheet(t, append(make([][]string, 99), []string{"a"}), api.ErrRange)
	refuseSheet(t, [][]string{append(edge, "a")}, api.ErrRange)
	refuseSheet(t, table(1<<16, 1, ""), api.ErrRange)
	refuseSheet(t, [][]string{make([]string, 1<<20)}, api.ErrRange)
}

func grid(rows, cols int, text string) (l []api.Filled) {
	for row := range rows {
		for col := range cols {
			l = append(l, api.Filled{Cell: api.Cell{Col: col + 1, Row: row + 1}, Text: text})
		}
	}
	return l
}

// TestV2SheetFaults: chapter 6's errors, of the first cell that has one.
func TestV2SheetFaults(t *testing.T) {
	long := strings.Repeat("x", api.MaxText)
	wantSheet(t, [][]string{{long}}, "A1 "+long)
	refuseSheet(t, [][]string{{long + "x"}}, api.ErrFull)
	refuseSheet(t, [][]string{{"=" + long}}, api.ErrFull)
	for _, text := range []string{"=", "=(1", "=a1", "=A100", "=A1:", `="x`, "=" + strings.Repeat("-", api.MaxDepth+1) + "1"} {
		refuseSheet(t, [][]string{{"a", ""}, {"", text}}, api.ErrSyntax)
	}
	wantSheet(t, table(10, 20, "=A1"), listed(grid(10, 20, "=A1")))
	refuseSheet(t, table(67, 3, "1"), api.ErrFull)
	refuseSheet(t, append(table(10, 20, "1"), []string{"", "1"}), api.ErrFull)
	refuseSheet(t, append(table(10, 20, "="), []string{"1"}), api.ErrFull)
	wantSheet(t, append(table(10, 20, "1"), make([]string, 26)), listed(grid(10, 20, "1")))
	refuseSheet(t, table(1<<10, 1<<10, "1"), api.ErrFull)
	refuseSheet(t, [][]string{{"=", long + "x"}}, api.ErrSyntax)
	refuseSheet(t, [][]string{{"a"}, {long + "x", "="}}, api.ErrFull)
}

// TestV2SheetFirst: chapter 6's errors are named ahead of too many rows, or fields; a cell that is none is one of them, in its turn.
func TestV2SheetFirst(t *testing.T) {
	long := strings.Repeat("x", api.MaxText+1)
	wide := make([]string, 27)
	out := append(make([]string, 26), "x")
	refuseSheet(t, [][]string{wide, {"="}}, api.ErrSyntax)
	refuseSheet(t, [][]string{{"="}, wide}, api.ErrSyntax)
	refuseSheet(t, [][]string{wide, {long}}, api.ErrFull)
	refuseSheet(t, append([][]string{{"="}}, make([][]string, 99)...), api.ErrSyntax)
	refuseSheet(t, append([][]string{{long}}, make([][]string, 99)...), api.ErrFull)
	refuseSheet(t, [][]string{out, {"="}}, api.ErrRange)
	refuseSheet(t, [][]string{{"="}, out}, api.ErrSyntax)
	refuseSheet(t, [][]string{{long}, out}, api.ErrFull)
	refuseSheet(t, [][]string{out, {long}}, api.ErrRange)
	refuseSheet(t, append(make([][]string, 99), []string{"="}), api.ErrRange)
	refuseSheet(t, append(make([][]string, 99), []string{long}), api.ErrRange)
	refuseSheet(t, table(1, 200, "1"), api.ErrRange)
	refuseSheet(t, table(1, 201, "1"), api.ErrFull)
	refuseSheet(t, table(200, 1, "1"), api.ErrRange)
	refuseSheet(t, table(201, 1, "="), api.ErrFull)
}

func TestV2Rows(t *testing.T) {
	for _, c := range []struct {
		sheet string
		want  [][]string
	}{
		{"", nil},
		{"A1 a", [][]string{{"a"}}},
		{"A1 a; B1 b; A2 c", [][]string{{"a", "b"}, {"c", ""}}},
		{"B2 x", [][]string{{"", ""}, {"", "x"}}},
		{"C1 a; A3 b", [][]string{{"", "", "a"}, {"", "", ""}, {"b", "", ""}}},
		{"B1 a; B3 b", [][]string{{"", "a"}, {"", ""}, {"", "b"}}},
		{"D1 a", [][]string{{"", "", "", "a"}}},
		{"A3 a", [][]string{{""}, {""}, {"a"}}},
		{"A1 =B1; B1 =A1; C1 1", [][]string{{"=B1", "=A1", "1"}}},
		{"A1 = A2 ; B2  \n", [][]string{{"= A2 ", ""}, {"", " \n"}}},
	} {
		wantRows(t, sheet(c.sheet), c.want)
	}
	far := table(99, 26, "")
	far[98][25] = "x"
	wantRows(t, sheet("Z99 x"), far)
	far[98][25], far[0][25], far[98][0] = "", "a", "b"
	wantRows(t, sheet("Z1 a; A99 b"), far)
	ends := table(7, 26, "x")
	wantRows(t, full("x"), append(ends, append(slices.Repeat([]string{"x"}, 18), make([]string, 8)...)))
}

func TestV2RowsFaults(t *testing.T) {
	long := strings.Repeat("x", api.MaxText+1)
	for _, c := range []struct {
		list []api.Filled
		want api.Errno
	}{
		{append(full("="), api.Filled{Cell: at("Z99"), Text: "1"}), api.ErrFull},
		{[]api.Filled{{Text: "1"}}, api.ErrRange},
		{[]api.Filled{{Cell: api.Cell{Col: 27, Row: 1}}}, api.ErrRange},
		{[]api.Filled{{Cell: api.Cell{Col: 1, Row: 100}, Text: "1"}}, api.ErrRange},
		{[]api.Filled{{Cell: api.Cell{Col: -1, Row: 1}, Text: "1"}}, api.ErrRange},
		{[]api.Filled{{Cell: api.Cell{Col: math.MaxInt, Row: math.MaxInt}, Text: "="}}, api.ErrRange},
		{[]api.Filled{{Cell: api.Cell{Col: math.MinInt, Row: math.MinInt}, Text: "="}}, api.ErrRange},
		{sheet("B1 1; A1 2"), api.ErrOrder},
		{sheet("A2 1; A1 2"), api.ErrOrder},
		{sheet("A1 1; A1 2"), api.ErrOrder},
		{sheet("A1 1; A99 "), api.ErrShape},
		{sheet("A1 " + long), api.ErrFull},
		{sheet("A1 =" + long), api.ErrFull},
		{sheet("Z99 ="), api.ErrSyntax},
		{sheet("A1 1; B1 =A100; C1 "), api.ErrSyntax},
	} {
		refuseRows(t, c.list, c.want)
	}
}

// Nothing that is handed in is written into, or handed out, no lists share memory, and what lies behind a list's length is not looked at.
func TestV2Fresh(t *testing.T) {
	const text, rest = "A1 =A2; B1 2; C3 4", "; Z99 2; A1 ; A1 ="
	behind := sheet(text + rest)
	l := behind[:3]
	want := [][]string{{"=A2", "2", ""}, {"", "", ""}, {"", "", "4"}}
	rows, err := csv.Rows(l)
	if err != nil {
		t.Fatal(err)
	}
	for i := range rows {
		if !alike(rows[i:], want[i:]) {
			t.Errorf("behind %d rows that are written into: %q", i, rows[i:])
		}
		for k := range rows[i][:cap(rows[i])] {
			rows[i][:cap(rows[i])][k] = "spoilt"
		}
	}
	wantRows(t, l, want)
	if got := listed(behind); got != text+rest {
		t.Errorf("Rows wrote into what was handed in: %s", got)
	}

	fields := []string{"a", "", "b", "behind"}
	grown := [][]string{fields[:3], {"c"}, {"="}, make([]string, 99)}
	made, err := csv.Sheet(grown[:2])
	if listed(made) != "A1 a; C1 b; A2 c" || err != nil {
		t.Errorf("Sheet: %s, %v", listed(made), err)
	}
	for i := range made[:cap(made)] {
		made[:cap(made)][i] = api.Filled{Text: "spoilt"}
	}
	wantSheet(t, grown[:2], "A1 a; C1 b; A2 c")
	if !alike(grown[:3], [][]string{{"a", "", "b"}, {"c"}, {"="}}) || fields[3] != "behind" {
		t.Errorf("Sheet wrote into what was handed in: %.90q", grown)
	}
}
