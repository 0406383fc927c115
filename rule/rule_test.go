package rule_test

import (
	"fmt"
	"math"
	"slices"
	"strconv"
	"strings"
	"testing"

	"sccsettle/api"
	"sccsettle/plain"
	"sccsettle/rule"
)

// at reads a cell's name, without the program's own words for it.
func at(name string) api.Cell {
	row, err := strconv.Atoi(name[1:])
	if err != nil {
		panic(name)
	}
	return api.Cell{Col: int(name[0]-'A') + 1, Row: row}
}

func named(c api.Cell) string { return fmt.Sprintf("%c%d", 'A'+c.Col-1, c.Row) }

func namedAll(l []api.Cell) string {
	var words []string
	for _, c := range l {
		words = append(words, named(c))
	}
	return strings.Join(words, " ")
}

// box reads two corners as they are written, in any order: "A1:B2".
func box(text string) api.Box {
	from, to, _ := strings.Cut(text, ":")
	return api.Box{From: at(from), To: at(to)}
}

// filled reads cells with their texts: "A1 =B1; B1 1".
func filled(text string) (l []api.Filled) {
	if text == "" {
		return nil
	}
	for _, word := range strings.Split(text, "; ") {
		name, of, _ := strings.Cut(word, " ")
		l = append(l, api.Filled{Cell: at(name), Text: of})
	}
	return l
}

func listed(l []api.Filled) string {
	var words []string
	for _, f := range l {
		words = append(words, named(f.Cell)+" "+f.Text)
	}
	return strings.Join(words, "; ")
}

// full has as many cells as may be: A1 to Z7, and A8 to R8.
func full(text string) (l []api.Filled) {
	for i := range api.MaxCells {
		l = append(l, api.Filled{Cell: api.Cell{Col: i%26 + 1, Row: 1 + i/26}, Text: text})
	}
	return l
}

func number(text string) int {
	n, err := strconv.Atoi(text)
	if err != nil {
		panic(text)
	}
	return n
}

// ruled reads rules: "A1:B2 between 1 9; C1:C9 of a|b|; D1:D9 short 3".
func ruled(text string) (l []api.Rule) {
	if text == "" {
		return nil
	}
	for _, word := range strings.Split(text, "; ") {
		name, of, _ := strings.Cut(word, " ")
		kind, of, _ := strings.Cut(of, " ")
		r := api.Rule{Box: box(name)}
		switch kind {
		case "between":
			low, high, _ := strings.Cut(of, " ")
			r.Kind, r.Low, r.High = api.Between, number(low), number(high)
		case "of":
			r.Kind, r.Texts = api.OneOf, strings.Split(of, "|")
		case "short":
			r.Kind, r.High = api.Short, number(of)
		default:
			panic(word)
		}
		l = append(l, r)
	}
	return l
}

func many(r api.Rule, n int) []api.Rule { return slices.Repeat([]api.Rule{r}, n) }

func wantBroken(t *testing.T, l []api.Filled, rules []api.Rule, want string) {
	t.Helper()
	if got, err := rule.Broken(l, rules); namedAll(got) != want || err != nil {
		t.Errorf("Broken of %.300q, %.300q: %s, %v; want %s", listed(l), fmt.Sprint(rules), namedAll(got), err, want)
	}
}

func wantFirst(t *testing.T, l []api.Filled, rules []api.Rule, cell string, want int) {
	t.Helper()
	if got, err := rule.First(l, rules, at(cell)); got != want || err != nil {
		t.Errorf("First of %.300q, %.300q, %s: %d, %v; want %d", listed(l), fmt.Sprint(rules), cell, got, err, want)
	}
}

func refuseBroken(t *testing.T, l []api.Filled, rules []api.Rule, want api.Errno) {
	t.Helper()
	if got, err := rule.Broken(l, rules); len(got) != 0 || plain.Told(err) != want {
		t.Errorf("Broken of %.300q, %.300q: %s, %v; want %v", listed(l), fmt.Sprint(rules), namedAll(got), err, want)
	}
}

func refuseFirst(t *testing.T, l []api.Filled, rules []api.Rule, c api.Cell, want api.Errno) {
	t.Helper()
	if got, err := rule.First(l, rules, c); got != 0 || plain.Told(err) != want {
		t.Errorf("First of %.300q, %.300q, %v: %d, %v; want %v", listed(l), fmt.Sprint(rules), c, got, err, want)
	}
}

func TestU1Check(t *testing.T) {
	twelve := slices.Repeat([]string{strings.Repeat("x", api.MaxText)}, api.MaxWide)
	for _, l := range [][]api.Rule{
		nil, {},
		ruled("A1:A1 between 1 9"), ruled("A1:Z99 of a|b|"), ruled("Z99:Z99 short 3"), ruled("A99:Z99 between 1 9"), ruled("Z1:Z99 between 1 9"),
		// Numbers may be any, and go any way; texts may be alike, empty, or none.
		ruled("A1:A1 between 9 1; A1:A1 between -9223372036854775808 9223372036854775807; A1:A1 between 9223372036854775807 -9223372036854775808"),
		ruled("A1:A1 short -1; A1:A1 short -9223372036854775808; A1:A1 short 9223372036854775807; A1:A1 short 0"),
		ruled("A1:A1 of a|a|; A1:A1 of "), {{Box: box("A1:B2"), Kind: api.OneOf}},
		// Texts are bytes.
		{{Box: box("A1:B2"), Kind: api.OneOf, Texts: []string{"\xff\x00\n", "é"}}},
		// Just as many as may be.
		many(ruled("A1:B2 short 1")[0], api.MaxRules),
		many(api.Rule{Box: box("A1:Z99"), Kind: api.OneOf, Texts: twelve}, api.MaxRules),
		{{Box: box("A1:Z99"), Kind: api.Between, Texts: twelve}}, {{Box: box("A1:Z99"), Kind: api.Short, Low: 7, Texts: twelve}},
	} {
		if err := rule.Check(l); err != nil {
			t.Errorf("Check of %.300q: %v", fmt.Sprint(l), err)
		}
		wantBroken(t, nil, l, "")
		refuseFirst(t, nil, l, at("A1"), api.ErrNone)
	}
}

// wrongRules are rules with what is wrong with them.
type wrongRules struct {
	l    []api.Rule
	want api.Errno
}

// noCells lie just beside the sheet, or far off.
func noCells() []api.Cell {
	return []api.Cell{
		{}, {Col: 0, Row: 1}, {Col: 27, Row: 1}, {Col: 1, Row: 0}, {Col: 1, Row: 100}, {Col: -1, Row: 1}, {Col: 1, Row: -1},
		{Col: math.MaxInt, Row: math.MaxInt}, {Col: math.MinInt, Row: math.MinInt}, {Col: 1<<32 + 1, Row: 1},
	}
}

func noBoxes() []api.Box {
	boxes := []api.Box{{}, box("B1:A1"), box("A2:A1"), box("B2:A1"), box("B1:A2"), box("A2:B1"), box("Z99:A1")}
	for _, c := range noCells() {
		boxes = append(boxes, api.Box{From: c, To: c}, api.Box{From: at("A1"), To: c}, api.Box{From: c, To: at("Z99")})
	}
	return boxes
}

// allWrong also tells which of several faults counts.
func allWrong() (all []wrongRules) {
	fine := ruled("A1:B2 between 1 9; A1:B2 of a; A1:B2 short 3")
	wide, long := slices.Repeat([]string{"x"}, api.MaxWide+1), []string{strings.Repeat("x", api.MaxText+1)}
	last := append(slices.Repeat([]string{""}, api.MaxWide-1), long...)
	for _, kind := range []int{api.Between, api.OneOf, api.Short} {
		for _, texts := range [][]string{wide, long, last} {
			r := api.Rule{Box: box("A1:B2"), Kind: kind, Texts: texts}
			all = append(all, wrongRules{[]api.Rule{r}, api.ErrFull}, wrongRules{append(fine[:3:3], r), api.ErrFull}, wrongRules{append([]api.Rule{r}, api.Rule{}), api.ErrFull}, wrongRules{[]api.Rule{fine[0], {}, r}, api.ErrRange})
		}
		for _, b := range noBoxes() {
			all = append(all, wrongRules{[]api.Rule{{Box: b, Kind: kind, Low: 1, High: 9}}, api.ErrRange}, wrongRules{[]api.Rule{{Box: b, Kind: kind, Texts: wide}}, api.ErrRange})
		}
	}
	for _, kind := range []int{0, 4, -1, math.MaxInt, math.MinInt, 1<<32 + 1} {
		for _, texts := range [][]string{nil, wide, long} {
			r := api.Rule{Box: box("A1:B2"), Kind: kind, High: 9, Texts: texts}
			all = append(all, wrongRules{[]api.Rule{r}, api.ErrRange}, wrongRules{append(fine[:3:3], r), api.ErrRange}, wrongRules{many(r, api.MaxRules), api.ErrRange}, wrongRules{many(r, api.MaxRules+1), api.ErrFull})
		}
	}
	return append(all,
		wrongRules{many(fine[0], api.MaxRules+1), api.ErrFull},
		wrongRules{many(api.Rule{}, api.MaxRules+1), api.ErrFull},
		wrongRules{append(many(fine[0], api.MaxRules-1), api.Rule{}), api.ErrRange},
	)
}

func TestU1CheckFaults(t *testing.T) {
	for _, c := range allWrong() {
		if err := rule.Check(c.l); plain.Told(err) != c.want {
			t.Errorf("Check of %.300q: %v; want %v", fmt.Sprint(c.l), err, c.want)
		}
		for _, l := range [][]api.Filled{nil, filled("A1 1; B2 =A1+1")} {
			refuseBroken(t, l, c.l, c.want)
			refuseFirst(t, l, c.l, at("A1"), c.want)
			refuseFirst(t, l, c.l, at("Z99"), c.want)
			// What is wrong with the rules is told ahead of what is wrong with the cell.
			refuseFirst(t, l, c.l, api.Cell{}, c.want)
		}
	}
}

// kinds has values of all kinds, by way of formulas or not: row 1 has numbers, row 2 texts, row 3 truths and what is bad, row 4 what is blank.
const kinds = `A1 4; B1 =A1+1; C1 -3; D1 =0; E1 123456; A2 ab; B2 ="4"; C2 04; D2 =""; E2 é; A3 TRUE; B3 =A1>9; C3 #DIV!; D3 =NONE(); A4 =Z9; B4 =A4`

func TestU1Between(t *testing.T) {
	for _, c := range []struct{ rules, want string }{
		// Only a number is one, and what is blank keeps all.
		{"A1:E9 between -9223372036854775808 9223372036854775807", "A2 B2 C2 D2 E2 A3 B3 C3 D3"},
		{"A1:E1 between -9223372036854775808 9223372036854775807", ""},
		{"A1:E1 between 4 5", "C1 D1 E1"},
		{"A1:E1 between 4 4", "B1 C1 D1 E1"},
		{"A1:E1 between 5 123456", "A1 C1 D1"},
		{"A1:E1 between 5 123455", "A1 C1 D1 E1"},
		{"A1:E1 between -3 0", "A1 B1 E1"},
		{"A1:E1 between -2 -1", "A1 B1 C1 D1 E1"},
		// From the greater one to the less there is none.
		{"A1:E1 between 5 4", "A1 B1 C1 D1 E1"},
		{"A1:E1 between 9223372036854775807 -9223372036854775808", "A1 B1 C1 D1 E1"},
		{"A3:E3 between 0 1", "A3 B3 C3 D3"},
		{"A4:E99 between 5 4", ""},
	} {
		wantBroken(t, filled(kinds), ruled(c.rules), c.want)
	}
	ends := filled("A1 -9223372036854775808; B1 9223372036854775807; C1 9223372036854775808")
	wantBroken(t, ends, ruled("A1:C1 between -9223372036854775808 -9223372036854775808"), "B1 C1")
	wantBroken(t, ends, ruled("A1:C1 between 9223372036854775807 9223372036854775807"), "A1 C1")
	wantBroken(t, ends, ruled("A1:C1 between -9223372036854775807 9223372036854775806"), "A1 B1 C1")
}

func TestU1OneOf(t *testing.T) {
	for _, c := range []struct{ rules, want string }{
		// What counts is how it is shown, not its kind.
		{"A1:E9 of 4", "B1 C1 D1 E1 A2 C2 D2 E2 A3 B3 C3 D3"},
		{"A1:E1 of 4|5|-3|0|123456", ""},
		{"A1:E1 of 123456|0|4|5", "C1"},
		{"A1:E1 of 04|+5|-03|-0", "A1 B1 C1 D1 E1"},
		{"A2:E2 of ab|4|04||é", ""},
		{"A2:E2 of ab|4|04|é", "D2"},
		{"A2:E2 of ", "A2 B2 C2 E2"},
		{"A2:E2 of AB|a|abc|b", "A2 B2 C2 D2 E2"},
		{"A3:E3 of TRUE|FALSE", "C3 D3"},
		{"A3:E3 of TRUE", "B3 C3 D3"},
		{"A3:E3 of true|1|0", "A3 B3 C3 D3"},
		// What is bad keeps none, though it is shown so.
		{"A3:E3 of TRUE|FALSE|#DIV!|#NONE!", "C3 D3"},
		{"A4:E99 of x", ""},
	} {
		wantBroken(t, filled(kinds), ruled(c.rules), c.want)
	}
	none := []api.Rule{{Box: box("A1:E9"), Kind: api.OneOf, Low: math.MinInt, High: math.MaxInt}}
	wantBroken(t, filled(kinds), none, "A1 B1 C1 D1 E1 A2 B2 C2 D2 E2 A3 B3 C3 D3")
	// Twelve of the longest texts; the last one counts, too.
	long := strings.Repeat("x", api.MaxText-1)
	r := api.Rule{Box: box("A1:Z99"), Kind: api.OneOf}
	for i := range api.MaxWide {
		r.Texts = append(r.Texts, long+string(rune('a'+i)))
	}
	wantBroken(t, filled("A1 "+long+"a; B1 "+long+"l; C1 "+long+"m; D1 "+long), []api.Rule{r}, "C1 D1")
}

func TestU1Short(t *testing.T) {
	for _, c := range []struct{ rules, want string }{
		{"A1:E9 short 9223372036854775807", "C3 D3"},
		{"A1:E9 short 5", "E1 C3 D3"},
		{"A1:E9 short 6", "C3 D3"},
		{"A1:E1 short 1", "C1 E1"},
		{"A2:E2 short 1", "A2 C2 E2"},
		{"A2:E2 short 2", ""},
		{"A3:E3 short 4", "B3 C3 D3"},
		{"A3:E3 short 5", "C3 D3"},
		{"A3:E3 short 3", "A3 B3 C3 D3"},
		// An empty text is a text, and not blank.
		{"A1:E9 short 0", "A1 B1 C1 D1 E1 A2 B2 C2 E2 A3 B3 C3 D3"},
		{"A2:E2 short -1", "A2 B2 C2 D2 E2"},
		{"A2:E2 short -9223372036854775808", "A2 B2 C2 D2 E2"},
		{"A4:E99 short -1", ""},
	} {
		wantBroken(t, filled(kinds), ruled(c.rules), c.want)
	}
	long := filled("A1 " + strings.Repeat("x", api.MaxText) + "; B1 -9223372036854775808; C1 =A1&1")
	wantBroken(t, long, ruled("A1:C1 short 200"), "C1")
	wantBroken(t, long, ruled("A1:C1 short 199"), "A1 C1")
	wantBroken(t, long, ruled("A1:C1 short 20"), "A1 C1")
	wantBroken(t, long, ruled("A1:C1 short 19"), "A1 B1 C1")
}

// TestU1Unused: what a kind does not speak of does not count.
func TestU1Unused(t *testing.T) {
	l := filled("A1 4; B1 ab")
	wantBroken(t, l, []api.Rule{{Box: box("A1:B1"), Kind: api.Between, Low: 1, High: 5, Texts: []string{"ab"}}}, "B1")
	wantBroken(t, l, []api.Rule{{Box: box("A1:B1"), Kind: api.OneOf, Low: 1, High: 1, Texts: []string{"ab"}}}, "A1")
	wantBroken(t, l, []api.Rule{{Box: box("A1:B1"), Kind: api.Short, Low: 2, High: 1, Texts: []string{"ab"}}}, "B1")
}

// TestU1Boxes: a rule is for the cells of its box, at its corners and edges, and for no others.
func TestU1Boxes(t *testing.T) {
	var l []api.Filled
	for row := 1; row <= 5; row++ {
		for col := 1; col <= 5; col++ {
			l = append(l, api.Filled{Cell: api.Cell{Col: col, Row: row}, Text: "x"})
		}
	}
	for _, c := range []struct{ box, want string }{
		{"B2:D4", "B2 C2 D2 B3 C3 D3 B4 C4 D4"}, {"C3:C3", "C3"}, {"A1:A1", "A1"}, {"A2:E2", "A2 B2 C2 D2 E2"}, {"D1:D99", "D1 D2 D3 D4 D5"},
		{"E5:Z99", "E5"}, {"F1:Z99", ""}, {"A6:Z99", ""}, {"D4:Z99", "D4 E4 D5 E5"}, {"A1:B2", "A1 B1 A2 B2"},
	} {
		wantBroken(t, l, ruled(c.box+" between 1 9"), c.want)
	}
	wantBroken(t, filled("A1 x; Z99 x"), ruled("A1:Z99 between 1 9"), "A1 Z99")
	wantBroken(t, filled("A1 x; Z99 x"), ruled("Z99:Z99 between 1 9"), "Z99")
	wantBroken(t, filled("A1 x; Z99 x"), ruled("A1:Z98 between 1 9"), "A1")
}

// TestU1Several: all rules of a cell have to be kept, wherever they stand among others.
func TestU1Several(t *testing.T) {
	l := filled("A1 4; B1 12; C1 ab; A2 5; B2 123; C2 =A1>3")
	for _, c := range []struct {
		rules, broken string
		first         map[string]int
	}{
		{"", "", nil},
		{"A1:B2 between 1 99; C1:C2 of ab|cd", "B2 C2", map[string]int{"B2": 0, "C2": 1}},
		{"A1:C2 short 2; A1:B2 between 5 9", "A1 B1 B2 C2", map[string]int{"A1": 1, "B1": 1, "B2": 0, "C2": 0}},
		{"A1:B2 between 5 9; A1:C2 short 2", "A1 B1 B2 C2", map[string]int{"A1": 0, "B1": 0, "B2": 0, "C2": 1}},
		{"D1:Z99 short 0; A1:A2 of 4|5; A1:C1 short 1; B1:B9 between 0 99", "B1 C1 B2", map[string]int{"B1": 2, "C1": 2, "B2": 3}},
		{"A1:A1 of 5; A1:A1 of 4; A1:A1 of 4|5; A1:A1 short 0", "A1", map[string]int{"A1": 0}},
		{"A1:A1 of 4; A1:A1 of 4|5; A1:A1 short 0; A1:A1 of 5", "A1", map[string]int{"A1": 2}},
	} {
		wantBroken(t, l, ruled(c.rules), c.broken)
		for _, cell := range []string{"A1", "B1", "C1", "A2", "B2", "C2", "D1", "Z99"} {
			if n, broken := c.first[cell]; broken {
				wantFirst(t, l, ruled(c.rules), cell, n)
			} else {
				refuseFirst(t, l, ruled(c.rules), at(cell), api.ErrNone)
			}
		}
	}
}

// A value is what chapter 7 says, circles too.
func TestU1Values(t *testing.T) {
	for _, c := range []struct{ sheet, rules, want string }{
		{"A1 =MIN(A1+1,5)", "A1:A1 between 5 5", ""},
		{"A1 =MIN(A1+1,5)", "A1:A1 between 1 4", "A1"},
		{"A1 =NOT(A1)", "A1:A1 of FALSE", ""},
		{"A1 =NOT(A1)", "A1:A1 of TRUE", "A1"},
		{"A1 =A1+1; B1 =A1", "A1:B1 between 20 20", ""},
		{"A1 =A1; B1 =C1; C1 =B1", "A1:C1 between 1 0", ""},
		{"A1 =B1+1; B1 =C1*2; C1 7", "A1:C1 between 7 14", "A1"},
		{"A1 =B1+1; B1 x", "A1:B1 short 1", "A1"},
		{"A1 =IFBAD(B1,3); B1 =1/0", "A1:B1 between 1 9", "B1"},
	} {
		wantBroken(t, filled(c.sheet), ruled(c.rules), c.want)
	}
}

func TestU1First(t *testing.T) {
	wantFirst(t, filled(kinds), ruled("A1:E1 between 1 9"), "C1", 0)
	refuseFirst(t, filled(kinds), ruled("A1:E1 between 1 9"), at("B1"), api.ErrNone)
	// A cell that is none of the sheet's, or comes to nothing, is blank, and keeps all; one that is bad keeps none.
	const all = "A1:Z99 short -1; A1:Z99 between 1 0; A1:Z99 of x"
	for _, cell := range []string{"A4", "B4", "C4", "Z9", "Z99", "E3"} {
		refuseFirst(t, filled(kinds), ruled(all), at(cell), api.ErrNone)
	}
	wantFirst(t, filled(kinds), ruled("A1:C1 of x; C3:C3 of #DIV!; A1:Z99 short 99"), "C3", 1)
	wantFirst(t, filled(kinds), ruled("A1:C1 of x; C3:C3 of #DIV!; A1:Z99 short 99"), "D3", 2)
	// The last rule of as many as may be.
	last := append(many(ruled("A1:Z99 short 200")[0], api.MaxRules-1), ruled("A1:Z99 between 1 1")...)
	l := full("1")
	l[199].Text = "2"
	wantFirst(t, l, last, "R8", 15)
	refuseFirst(t, l, last, at("Q8"), api.ErrNone)
	wantBroken(t, l, last, "R8")
	wantBroken(t, full("x"), last[15:], namedAll(cellsOf(l)))
}

func cellsOf(l []api.Filled) (cells []api.Cell) {
	for _, f := range l {
		cells = append(cells, f.Cell)
	}
	return cells
}

func TestU1FirstOfNoCell(t *testing.T) {
	for _, c := range noCells() {
		for _, l := range [][]api.Filled{nil, filled("A1 x"), full("1")} {
			refuseFirst(t, l, nil, c, api.ErrRange)
			refuseFirst(t, l, ruled("A1:Z99 between 1 0"), c, api.ErrRange)
		}
	}
}

// TestU1SheetFaults: what is wrong with a sheet is told ahead of all else.
func TestU1SheetFaults(t *testing.T) {
	long := strings.Repeat("x", api.MaxText+1)
	sheets := []struct {
		l    []api.Filled
		want api.Errno
	}{
		{append(full("1"), filled("Z99 1")...), api.ErrFull},
		{append(full("="), api.Filled{}), api.ErrFull},
		{filled("A1 " + long), api.ErrFull},
		{filled("B1 1; A1 2"), api.ErrOrder},
		{filled("A1 1; A1 1"), api.ErrOrder},
		{filled("A1 "), api.ErrShape},
		{filled("A1 1; B1 ; C1 ="), api.ErrShape},
		{filled("A1 =1+"), api.ErrSyntax},
		{filled("A1 ="), api.ErrSyntax},
	}
	for _, c := range noCells() {
		sheets = append(sheets, struct {
			l    []api.Filled
			want api.Errno
		}{[]api.Filled{{Cell: c, Text: "1"}}, api.ErrRange})
	}
	for _, c := range sheets {
		for _, rules := range [][]api.Rule{nil, ruled("A1:Z99 short 3"), {{}}, many(api.Rule{}, api.MaxRules+1), {{Box: box("A1:A1"), Kind: api.OneOf, Texts: []string{long}}}} {
			refuseBroken(t, c.l, rules, c.want)
			refuseFirst(t, c.l, rules, at("A1"), c.want)
			refuseFirst(t, c.l, rules, at("Z99"), c.want)
			refuseFirst(t, c.l, rules, api.Cell{}, c.want)
		}
	}
}

// Nothing that is handed in is written into or kept, what lies behind its length is neither read nor written, and what comes out is the caller's.
func TestU1Fresh(t *testing.T) {
	const stands, rules = "A1 1; B1 =A1*2; C1 ab; A9 x; A1 =", "A1:C1 between 1 1; C1:C1 of a|ab|c; A1:Z99 of q; B9:A1 short 0"
	l, of := filled(stands), ruled(rules)
	of[1].Texts = of[1].Texts[:1:3]
	for range 3 {
		got, err := rule.Broken(l[:3], of[:2])
		if namedAll(got) != "B1 C1" || err != nil {
			t.Fatalf("Broken: %s, %v", namedAll(got), err)
		}
		for i := range got[:cap(got)] {
			got[:cap(got)][i] = at("Z99")
		}
		wantFirst(t, l[:3], of[:2], "C1", 0)
		wantFirst(t, l[:3], of[1:2], "C1", 0)
		refuseFirst(t, l[:3], of[:2], at("A9"), api.ErrNone)
		if err := rule.Check(of[:2]); err != nil {
			t.Fatalf("Check: %v", err)
		}
	}
	of[1].Texts = of[1].Texts[:3]
	if !slices.Equal(l, filled(stands)) || fmt.Sprint(of) != fmt.Sprint(ruled(rules)) {
		t.Errorf("what was handed in was written into: %s, %v", listed(l), of)
	}
}
