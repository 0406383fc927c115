package graph_test

import (
	"fmt"
	"reflect"
	"slices"
	"strconv"
	"strings"
	"testing"

	"sccsettle/api"
	"sccsettle/graph"
	"sccsettle/plain"
)

// at reads a cell's name, without the program's own words for it.
func at(name string) api.Cell {
	row, err := strconv.Atoi(name[1:])
	if err != nil {
		panic(name)
	}
	return api.Cell{Col: int(name[0]-'A') + 1, Row: row}
}

func named(c api.Cell) string { return fmt.Sprintf("%c%d", 'A'+c.Col-1, c.Row) }

// names of cells, by blanks.
func names(cells []api.Cell) string {
	var words []string
	for _, c := range cells {
		words = append(words, named(c))
	}
	return strings.Join(words, " ")
}

// sheet reads cells: "A1 =B1; B1 1".
func sheet(text string) (l []api.Filled) {
	if text == "" {
		return nil
	}
	for _, word := range strings.Split(text, "; ") {
		name, of, _ := strings.Cut(word, " ")
		l = append(l, api.Filled{Cell: at(name), Text: of})
	}
	return l
}

func linksShown(t *testing.T, l []api.Filled) string {
	t.Helper()
	links, err := graph.Links(l)
	if err != nil {
		t.Fatalf("Links(%v): %v", l, err)
	}
	var words []string
	for _, link := range links {
		words = append(words, named(link[0])+">"+named(link[1]))
	}
	return strings.Join(words, " ")
}

func partsShown(t *testing.T, l []api.Filled) string {
	t.Helper()
	parts, err := graph.Parts(l)
	if err != nil {
		t.Fatalf("Parts(%v): %v", l, err)
	}
	var words []string
	for _, part := range parts {
		words = append(words, names(part))
	}
	return strings.Join(words, ", ")
}

// orderShown: as fmt shows a list.
func orderShown(t *testing.T, l []api.Filled) string {
	t.Helper()
	order, err := graph.Order(l)
	if err != nil {
		t.Fatalf("Order(%v): %v", l, err)
	}
	return strings.Trim(fmt.Sprint(order), "[]")
}

// circleShown: "none" for ErrNone.
func circleShown(t *testing.T, l []api.Filled, c api.Cell) string {
	t.Helper()
	circle, err := graph.Circle(l, c)
	if plain.Told(err) == api.ErrNone && circle == nil {
		return "none"
	}
	if err != nil || len(circle) == 0 {
		t.Fatalf("Circle(%v, %v): %v, %v", l, c, circle, err)
	}
	return names(circle)
}

func hangsShown(t *testing.T, l []api.Filled, c api.Cell) string {
	t.Helper()
	hangs, err := graph.Hangs(l, c)
	if err != nil {
		t.Fatalf("Hangs(%v, %v): %v", l, c, err)
	}
	return names(hangs)
}

// wantError asks for the error of every call, and for no other result beside it.
func wantError(t *testing.T, l []api.Filled, want api.Errno) {
	t.Helper()
	if got := plain.Told(graph.Check(l)); got != want {
		t.Errorf("Check(%v): %v, want %v", l, got, want)
	}
	links, e1 := graph.Links(l)
	parts, e2 := graph.Parts(l)
	order, e3 := graph.Order(l)
	circle, e4 := graph.Circle(l, at("A1"))
	hangs, e5 := graph.Hangs(l, at("A1"))
	// A cell that is none, too: what is wrong with the sheet is told ahead of it.
	circle2, e6 := graph.Circle(l, api.Cell{})
	hangs2, e7 := graph.Hangs(l, api.Cell{})
	for i, err := range []error{e1, e2, e3, e4, e5, e6, e7} {
		if got := plain.Told(err); got != want {
			t.Errorf("call %d of %v: %v, want %v", i, l, got, want)
		}
	}
	if len(links)+len(parts)+len(order)+len(circle)+len(hangs)+len(circle2)+len(hangs2) != 0 {
		t.Errorf("%v: something beside an error", l)
	}
}

// wantSheet asks that nothing be wrong.
func wantSheet(t *testing.T, l []api.Filled) {
	t.Helper()
	if err := graph.Check(l); err != nil {
		t.Errorf("Check(%v): %v", l, err)
	}
	_, e1 := graph.Links(l)
	_, e2 := graph.Parts(l)
	_, e3 := graph.Order(l)
	_, e4 := graph.Hangs(l, at("A1"))
	for i, err := range []error{e1, e2, e3, e4} {
		if err != nil {
			t.Errorf("call %d of %v: %v", i, l, err)
		}
	}
}

// full: as many cells as asked for, row by row, all with one text.
func full(many int, text string) (l []api.Filled) {
	for i := range many {
		l = append(l, api.Filled{Cell: api.Cell{Col: i%api.MaxCol + 1, Row: i/api.MaxCol + 1}, Text: text})
	}
	return l
}

func TestG1Sheets(t *testing.T) {
	wantSheet(t, nil)
	wantSheet(t, []api.Filled{})
	for _, text := range []string{
		"A1 1", "Z99 x", "A1 1; Z99 1", "A1 1; B1 1; A2 1", "Z1 1; A2 1", "A1 =A1", "A1 =1", "A1 = 1 ", "A1 #DIV!", "A1  ", "A1 x=", "A1 \x00\xff", "A1 \"", "A1  =1+",
		"A1 =SUM(A1:Z99)", "A1 =FLY()",
	} {
		wantSheet(t, sheet(text))
	}
	wantSheet(t, []api.Filled{{Cell: at("A1"), Text: strings.Repeat("x", api.MaxText)}})
	wantSheet(t, []api.Filled{{Cell: at("A1"), Text: "=1" + strings.Repeat(" ", api.MaxText-2)}})
	wantSheet(t, []api.Filled{{Cell: at("A1"), Text: "=" + strings.Repeat("-", api.MaxDepth) + "1"}})
	wantSheet(t, full(api.MaxCells, "x"))
	wantSheet(t, full(api.MaxCells, "=A1"))
}

func TestG1Faults(t *testing.T) {
	for _, c := range []struct {
		l    []api.Filled
		want api.Errno
	}{
		{full(api.MaxCells+1, "x"), api.ErrFull},
		{make([]api.Filled, api.MaxCells+1), api.ErrFull},
		{make([]api.Filled, api.MaxCells), api.ErrRange},
		{make([]api.Filled, 1), api.ErrRange},
		{[]api.Filled{{Cell: api.Cell{Col: 27, Row: 1}, Text: "1"}}, api.ErrRange},
		{[]api.Filled{{Cell: api.Cell{Col: 1, Row: 100}, Text: "1"}}, api.ErrRange},
		{[]api.Filled{{Cell: api.Cell{Col: 0, Row: 1}, Text: "1"}}, api.ErrRange},
		{[]api.Filled{{Cell: api.Cell{Col: 1, Row: 0}, Text: "1"}}, api.ErrRange},
		{[]api.Filled{{Cell: api.Cell{Col: -1 << 63, Row: 1<<63 - 1}, Text: "1"}}, api.ErrRange},
		{sheet("A1 1; A1 1"), api.ErrOrder},
		{sheet("B1 1; A1 1"), api.ErrOrder},
		{sheet("A2 1; B1 1"), api.ErrOrder},
		{sheet("A1 1; A3 1; A2 1"), api.ErrOrder},
		{sheet("A1 "), api.ErrShape},
		{sheet("A1 1; B1 "), api.ErrShape},
		{[]api.Filled{{Cell: at("A1"), Text: strings.Repeat("x", api.MaxText+1)}}, api.ErrFull},
		{[]api.Filled{{Cell: at("A1"), Text: "=" + strings.Repeat("1", api.MaxText)}}, api.ErrFull},
		{[]api.Filled{{Cell: at("A1"), Text: "=1" + strings.Repeat(" ", api.MaxText-1)}}, api.ErrFull},
		{sheet("A1 ="), api.ErrSyntax},
		{sheet("A1 =1+"), api.ErrSyntax},
		{sheet("A1 =A100"), api.ErrSyntax},
		{sheet("A1 =A1:B2"), api.ErrSyntax},
		{sheet("A1 =="), api.ErrSyntax},
		{sheet("A1 =a1"), api.ErrSyntax},
		{sheet("A1 1; B1 =x"), api.ErrSyntax},
		// Parse says ErrFull of so many levels; a sheet says that it is no formula.
		{sheet("A1 =" + strings.Repeat("-", api.MaxDepth+1) + "1"), api.ErrSyntax},
	} {
		wantError(t, c.l, c.want)
	}
}

// TestG1First: of several faults of a cell the one that is named first is told, and of several cells the first one's.
func TestG1First(t *testing.T) {
	long := "=" + strings.Repeat("(", api.MaxText)
	none := api.Cell{Row: 1}
	for _, c := range []struct {
		l    []api.Filled
		want api.Errno
	}{
		{[]api.Filled{{Cell: at("A1"), Text: "1"}, {Cell: none, Text: ""}}, api.ErrRange},
		{[]api.Filled{{Cell: at("B1"), Text: "1"}, {Cell: at("A1"), Text: ""}}, api.ErrOrder},
		{[]api.Filled{{Cell: at("B1"), Text: "1"}, {Cell: at("A1"), Text: long}}, api.ErrOrder},
		{[]api.Filled{{Cell: at("B1"), Text: "1"}, {Cell: at("A1"), Text: "="}}, api.ErrOrder},
		{[]api.Filled{{Cell: at("A1"), Text: long}}, api.ErrFull},
		{[]api.Filled{{Cell: at("A1"), Text: ""}, {Cell: none, Text: "1"}}, api.ErrShape},
		{[]api.Filled{{Cell: at("A1"), Text: "="}, {Cell: none, Text: "1"}}, api.ErrSyntax},
		{[]api.Filled{{Cell: at("A1"), Text: long}, {Cell: none, Text: "1"}}, api.ErrFull},
		{[]api.Filled{{Cell: at("A1"), Text: "="}, {Cell: at("A1"), Text: "1"}}, api.ErrSyntax},
		{[]api.Filled{{Cell: at("B1"), Text: "="}, {Cell: at("A1"), Text: long}}, api.ErrSyntax},
		{[]api.Filled{{Cell: at("B1"), Text: "1"}, {Cell: at("C1"), Text: ""}, {Cell: at("A1"), Text: "1"}}, api.ErrShape},
	} {
		wantError(t, c.l, c.want)
	}
}

func TestG2Links(t *testing.T) {
	for text, want := range map[string]string{
		"":                                    "",
		"A1 1; B1 A1":                         "",
		"A1 =1":                               "",
		"A1 =A1":                              "A1>A1",
		"A1 =Z99":                             "A1>Z99",
		"A1 =$B$1":                            "A1>B1",
		"A1 =C1+A2+B1+C1":                     "A1>B1 A1>C1 A1>A2",
		"B2 =SUM(A1:B2)":                      "B2>A1 B2>B1 B2>A2 B2>B2",
		"B2 =SUM(B1:A2)":                      "B2>A1 B2>B1 B2>A2 B2>B2",
		"A1 =SUM(B1:C1,C1:D1,B1)":             "A1>B1 A1>C1 A1>D1",
		"A1 =IF(TRUE,B1,C1)":                  "A1>B1 A1>C1",
		`A1 ="B1"&C1`:                         "A1>C1",
		"A1 =B1; B1 x; C1 =A1; A2 =B1+A1":     "A1>B1 C1>A1 A2>A1 A2>B1",
		"A1 =B1; B1 =A1+C1; C1 1; A2 =A1":     "A1>B1 B1>A1 B1>C1 A2>A1",
		"A1 =IF(-B1=C1,(D1),CAT(A2&B2,C2/1))": "A1>B1 A1>C1 A1>D1 A1>A2 A1>B2 A1>C2",
	} {
		if got := linksShown(t, sheet(text)); got != want {
			t.Errorf("Links(%s) = %s, want %s", text, got, want)
		}
	}
	if links, err := graph.Links(sheet("A1 =SUM(A1:Z99)")); err != nil || len(links) != 26*99 || links[len(links)-1] != [2]api.Cell{at("A1"), at("Z99")} {
		t.Errorf("Links of all cells: %d, %v", len(links), err)
	}
}

func TestG2Parts(t *testing.T) {
	for text, want := range map[string]string{
		"":                                "",
		"A1 1":                            "A1",
		"A1 1; C1 2; B2 3":                "A1, C1, B2",
		"A1 =A1":                          "A1",
		"A1 =B1":                          "A1",
		"A1 =B1; B1 1":                    "A1, B1",
		"A1 =B1; B1 =A1":                  "A1 B1",
		"A1 =B1; B1 =C1; C1 =A1":          "A1 B1 C1",
		"A1 =B1; B1 =C1; C1 1":            "A1, B1, C1",
		"A1 =C1; B1 1; C1 =A1":            "A1 C1, B1",
		"A1 =C1; B1 =A2; C1 =A1; A2 =B1":  "A1 C1, B1 A2",
		"A1 =B2; B1 =A1; B2 =A1":          "A1 B2, B1",
		"A1 =B2; B1 =A2; A2 =B1; B2 =A1":  "A1 B2, B1 A2",
		"A1 =SUM(A1:B2); B2 =A1; C3 =B2":  "A1 B2, C3",
		"A1 =B1; B1 =A1+C1; C1 1; A2 =A1": "A1 B1, C1, A2",
		// By way of what is none of the sheet's nothing hangs together.
		"A1 =B1; C1 =B1":                         "A1, C1",
		"A1 =B1; B1 =A1+C1; C1 =D1; D1 =C1":      "A1 B1, C1 D1",
		"A1 =B1; B1 =A1+C1; C1 =D1; D1 =C1+A1":   "A1 B1 C1 D1",
		"A1 =A1; B1 =A1+B1; C1 =B1+C1; D1 =C1":   "A1, B1, C1, D1",
		"A1 =IF(FALSE,B1,1); B1 =IF(FALSE,A1,1)": "A1 B1",
	} {
		if got := partsShown(t, sheet(text)); got != want {
			t.Errorf("Parts(%s) = %s, want %s", text, got, want)
		}
	}
}

func TestG3Order(t *testing.T) {
	for text, want := range map[string]string{
		"":                                "",
		"A1 1":                            "0",
		"A1 1; B1 2; C1 3":                "0 1 2",
		"A1 =B1; B1 1":                    "1 0",
		"A1 =B1":                          "0",
		"A1 =A1":                          "0",
		"A1 =B1; B1 =C1; C1 1":            "2 1 0",
		"A1 =C1; B1 1; C1 1":              "2 0 1",
		"A1 =B1; B1 1; C1 1":              "1 0 2",
		"A1 =D1; B1 =C1; C1 1; D1 1":      "3 1 0 2",
		"A1 =D1; B1 =D1; C1 1; D1 1":      "2 3 0 1",
		"A1 =B1; B1 =A1+C1; C1 1; A2 =A1": "1 0 2",
		"A1 =D1; B1 =C1; C1 =B1; D1 =C1":  "2 0 1",
		"A1 =B1; B1 =C1; C1 =B1; D1 =A1":  "1 0 2",
		"A1 =SUM(B1:D1); B1 =C1; C1 =D1":  "2 1 0",
		"A1 =A3; A2 =A3; A3 =A4; A4 1":    "2 3 1 0",
		"A1 1; B1 =C1; C1 =D1; D1 =A1":    "0 3 2 1",
	} {
		if got := orderShown(t, sheet(text)); got != want {
			t.Errorf("Order(%s) = %s, want %s", text, got, want)
		}
	}
}

func TestG3Circle(t *testing.T) {
	for _, c := range []struct{ text, of, want string }{
		{"", "A1", "none"},
		{"A1 1", "A1", "none"},
		{"A1 1", "B1", "none"},
		{"A1 =B1", "A1", "none"},
		{"A1 =B1", "B1", "none"},
		{"A1 =A1", "A1", "A1"},
		{"A1 =A1; B1 =A1", "B1", "none"},
		{"A1 =B1; B1 =B1", "A1", "none"},
		{"A1 =B1; B1 =A1+C1; C1 1; A2 =A1", "A1", "A1 B1"},
		{"A1 =B1; B1 =A1+C1; C1 1; A2 =A1", "B1", "B1 A1"},
		{"A1 =B1; B1 =A1+C1; C1 1; A2 =A1", "C1", "none"},
		{"A1 =B1; B1 =A1+C1; C1 1; A2 =A1", "A2", "none"},
		{"A1 =B1; B1 =C1; C1 =A1", "B1", "B1 C1 A1"},
		{"A1 =C1; B1 =A1; C1 =B1", "A1", "A1 C1 B1"},
		// As few as can be, though others stand ahead.
		{"A1 =A1+B1; B1 =A1", "A1", "A1"},
		{"A1 =A1+B1; B1 =A1", "B1", "B1 A1"},
		{"A1 =B1+D1; B1 =C1; C1 =A1; D1 =A1", "A1", "A1 D1"},
		{"A1 =B1+D1; B1 =C1; C1 =A1; D1 =A1", "B1", "B1 C1 A1"},
		// Of as few the first, as they stand: by the first in which they differ.
		{"A1 =D1+C1; C1 =A1; D1 =A1", "A1", "A1 C1"},
		{"A1 =B1+C1; B1 =D1; C1 =A2; D1 =A1; A2 =A1", "A1", "A1 B1 D1"},
		{"A1 =B1+C1; B1 =A2; C1 =D1; D1 =A1; A2 =A1", "A1", "A1 B1 A2"},
		{"A1 =B1; B1 =D1+C1; C1 =A1; D1 =A1", "A1", "A1 B1 C1"},
		{"A1 =SUM(B1:C1); B1 1; C1 =A1", "A1", "A1 C1"},
		{"A1 =SUM(B1:D1); B1 =B1; C1 =B1; D1 =A1", "A1", "A1 D1"},
		{"A1 =B1; B1 =C1; C1 =B1", "A1", "none"},
		{"A1 =B1; B1 =C1; C1 =B1", "C1", "C1 B1"},
	} {
		if got := circleShown(t, sheet(c.text), at(c.of)); got != c.want {
			t.Errorf("Circle(%s; %s) = %s, want %s", c.text, c.of, got, c.want)
		}
	}
}

func TestG3Hangs(t *testing.T) {
	for _, c := range []struct{ text, of, want string }{
		{"", "A1", ""},
		{"A1 1", "A1", ""},
		{"A1 =A1", "A1", "A1"},
		{"A1 =B1", "A1", ""},
		{"A1 =B1", "B1", "A1"},
		{"A1 =SUM(A9:Z99)", "M50", "A1"},
		{"A1 =SUM(A9:Z99)", "M8", ""},
		{"A1 =B1; B1 =C1", "C1", "A1 B1"},
		{"A1 =B1; B1 =C1; C1 =Z99; D1 =A2", "Z99", "A1 B1 C1"},
		{"A1 =B1; B1 =A1+C1; C1 1; A2 =A1", "C1", "A1 B1 A2"},
		{"A1 =B1; B1 =A1+C1; C1 1; A2 =A1", "A1", "A1 B1 A2"},
		{"A1 =B1; B1 =A1+C1; C1 1; A2 =A1", "A2", ""},
		{"A1 =D1; B1 =A1; C1 =B1; D1 1; A2 =B1", "B1", "C1 A2"},
		{"A1 =B1; B1 =C1; C1 =B1; D1 =C1", "B1", "A1 B1 C1 D1"},
		{"A1 =B1; B1 =C1; C1 =B1; D1 =C1", "A1", ""},
	} {
		if got := hangsShown(t, sheet(c.text), at(c.of)); got != c.want {
			t.Errorf("Hangs(%s; %s) = %s, want %s", c.text, c.of, got, c.want)
		}
	}
}

func TestG3NoCell(t *testing.T) {
	for _, c := range []api.Cell{{}, {Col: 0, Row: 1}, {Col: 1, Row: 0}, {Col: 27, Row: 1}, {Col: 1, Row: 100}, {Col: -1, Row: -1}, {Col: 1<<63 - 1, Row: 1}, {Col: 1, Row: -1 << 63}} {
		for _, text := range []string{"", "A1 =A1", "A1 =SUM(A1:Z99); B1 1"} {
			circle, err := graph.Circle(sheet(text), c)
			if plain.Told(err) != api.ErrRange || circle != nil {
				t.Errorf("Circle(%s; %v): %v, %v", text, c, circle, err)
			}
			hangs, err := graph.Hangs(sheet(text), c)
			if plain.Told(err) != api.ErrRange || hangs != nil {
				t.Errorf("Hangs(%s; %v): %v, %v", text, c, hangs, err)
			}
		}
	}
}

// TestLong: chains and circles of as many cells as there may be.
func TestLong(t *testing.T) {
	next := full(api.MaxCells, "1")
	for i := range api.MaxCells - 1 {
		next[i].Text = "=" + named(next[i+1].Cell)
	}
	last := api.MaxCells - 1
	parts, err := graph.Parts(next)
	if err != nil || len(parts) != api.MaxCells {
		t.Fatalf("Parts of a chain: %d, %v", len(parts), err)
	}
	order, err := graph.Order(next)
	for i := range order {
		if err != nil || order[i] != last-i {
			t.Fatalf("Order of a chain: %v, %v", order, err)
		}
	}
	if hangs, err := graph.Hangs(next, next[last].Cell); err != nil || len(hangs) != last {
		t.Errorf("Hangs of a chain: %d, %v", len(hangs), err)
	}
	next[last].Text = "=A1"
	circle, err := graph.Circle(next, next[last].Cell)
	if err != nil || len(circle) != api.MaxCells || circle[0] != next[last].Cell || circle[1] != at("A1") || circle[last] != next[last-1].Cell {
		t.Errorf("Circle of all: %v, %v", circle, err)
	}
	if parts, err := graph.Parts(next); err != nil || len(parts) != 1 || len(parts[0]) != api.MaxCells {
		t.Errorf("Parts of a circle: %d, %v", len(parts), err)
	}
	if order, err := graph.Order(next); err != nil || !slices.Equal(order, []int{0}) {
		t.Errorf("Order of a circle: %v, %v", order, err)
	}
}

// TestAllOnAll: as much to look at as there can be.
func TestAllOnAll(t *testing.T) {
	l := full(api.MaxCells, "=SUM(A1:Z99"+strings.Repeat(",A1:Z99", 26)+")")
	links, err := graph.Links(l)
	if err != nil || len(links) != api.MaxCells*26*99 {
		t.Errorf("Links: %d, %v", len(links), err)
	}
	if parts, err := graph.Parts(l); err != nil || len(parts) != 1 || len(parts[0]) != api.MaxCells {
		t.Errorf("Parts: %d, %v", len(parts), err)
	}
	if got := circleShown(t, l, at("G8")); got != "G8" {
		t.Errorf("Circle: %s", got)
	}
	if hangs, err := graph.Hangs(l, at("Z99")); err != nil || len(hangs) != api.MaxCells {
		t.Errorf("Hangs: %d, %v", len(hangs), err)
	}
}

// TestLists: nothing that is handed in is written into, nor read behind its length; answers share no memory.
func TestLists(t *testing.T) {
	whole := sheet("A1 =B1; B1 =A1+C1; C1 1; A2 =A2; B2 =")
	l, kept := whole[:4], slices.Clone(whole)
	ask := func() []any {
		links, e1 := graph.Links(l)
		parts, e2 := graph.Parts(l)
		order, e3 := graph.Order(l)
		circle, e4 := graph.Circle(l, at("A1"))
		hangs, e5 := graph.Hangs(l, at("A1"))
		return []any{links, parts, order, circle, hangs, graph.Check(l), e1, e2, e3, e4, e5}
	}
	first := ask()
	parts, err := graph.Parts(l)
	if err != nil || len(parts) != 3 {
		t.Fatal(parts, err)
	}
	_ = append(parts[0], at("Z9"), at("Z9"))
	for i := range parts {
		for j := range parts[i] {
			parts[i][j] = at("Z9")
		}
		if i+1 < len(parts) && slices.Contains(parts[i+1], at("Z9")) {
			t.Errorf("part %d shares memory with the one ahead", i+1)
		}
	}
	if second := ask(); !reflect.DeepEqual(first, second) {
		t.Errorf("asked again: %v, at first %v", second, first)
	}
	if !slices.Equal(whole, kept) {
		t.Errorf("written into: %v", whole)
	}
}
