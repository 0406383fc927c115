package seek_test

import (
	"fmt"
	"math"
	"slices"
	"strconv"
	"strings"
	"testing"

	"sccsettle/api"
	"sccsettle/plain"
	"sccsettle/seek"
)

// at reads a cell's name, without the program's own words for it.
func at(name string) api.Cell {
	row, err := strconv.Atoi(name[1:])
	if err != nil {
		panic(name)
	}
	return api.Cell{Col: int(name[0]-'A') + 1, Row: row}
}

func named(c api.Cell) string { return fmt.Sprintf("%c%d", 'A'+c.Col-1, c.Row) }

// filled reads cells with their texts: "A1 =B1; B1 1".
func filled(text string) (l []api.Filled) {
	if text == "" {
		return nil
	}
	for _, word := range strings.Split(text, "; ") {
		name, of, _ := strings.Cut(word, " ")
		l = append(l, api.Filled{Cell: at(name), Text: of})
	}
	return l
}

func listed(l []api.Filled) string {
	var words []string
	for _, f := range l {
		words = append(words, named(f.Cell)+" "+f.Text)
	}
	return strings.Join(words, "; ")
}

// full has as many cells as may be: A1 to Z7, and A8 to R8.
func full(text string) (l []api.Filled) {
	for i := range api.MaxCells {
		l = append(l, api.Filled{Cell: api.Cell{Col: i%26 + 1, Row: 1 + i/26}, Text: text})
	}
	return l
}

// seen writes a value so that its kind is seen: blank is -, a text is quoted.
func seen(v api.Value) string {
	switch v {
	case api.Value{}:
		return "-"
	case api.Value{Kind: api.Number, Num: v.Num}:
		return strconv.Itoa(v.Num)
	case api.Value{Kind: api.Text, Text: v.Text}:
		return strconv.Quote(v.Text)
	case api.Value{Kind: api.Truth, Num: 1}:
		return "TRUE"
	case api.Value{Kind: api.Truth}:
		return "FALSE"
	case api.Value{Kind: api.Bad, Num: v.Num}:
		return "bad" + strconv.Itoa(v.Num)
	}
	return fmt.Sprintf("no value: %#v", v)
}

func seenAll(l []api.Value) string {
	var words []string
	for _, v := range l {
		words = append(words, seen(v))
	}
	return strings.Join(words, " ")
}

// asked is what Seek is asked, and the number that it tells.
type asked struct {
	sheet, by string
	low, high int
	goal      string
	want, is  int
}

func wantSeek(t *testing.T, l []api.Filled, a asked) {
	t.Helper()
	if n, err := seek.Seek(l, at(a.by), a.low, a.high, at(a.goal), a.want); n != a.is || err != nil {
		t.Errorf("Seek of %.200q, %s from %d to %d, so that %s is %d: %d, %v; want %d", listed(l), a.by, a.low, a.high, a.goal, a.want, n, err, a.is)
	}
}

func refuseSeek(t *testing.T, l []api.Filled, by api.Cell, low, high int, goal api.Cell, want int, wrong api.Errno) {
	t.Helper()
	if n, err := seek.Seek(l, by, low, high, goal, want); n != 0 || plain.Told(err) != wrong {
		t.Errorf("Seek of %.200q, %v from %d to %d, so that %v is %d: %d, %v; want %v", listed(l), by, low, high, goal, want, n, err, wrong)
	}
}

func wantTable(t *testing.T, l []api.Filled, by string, from, step, many int, goal, want string) {
	t.Helper()
	if v, err := seek.Table(l, at(by), from, step, many, at(goal)); seenAll(v) != want || err != nil {
		t.Errorf("Table of %.200q, %s from %d by %d, %d of them, %s: %.300s, %v; want %.300s", listed(l), by, from, step, many, goal, seenAll(v), err, want)
	}
}

func refuseTable(t *testing.T, l []api.Filled, by api.Cell, from, step, many int, goal api.Cell, wrong api.Errno) {
	t.Helper()
	if v, err := seek.Table(l, by, from, step, many, goal); len(v) != 0 || plain.Told(err) != wrong {
		t.Errorf("Table of %.200q, %v from %d by %d, %d of them, %v: %.300s, %v; want %v", listed(l), by, from, step, many, goal, seenAll(v), err, wrong)
	}
}

func wantMost(t *testing.T, l []api.Filled, by string, low, high int, goal string, n, most int) {
	t.Helper()
	if m, v, err := seek.Most(l, at(by), low, high, at(goal)); m != n || v != most || err != nil {
		t.Errorf("Most of %.200q, %s from %d to %d, %s: %d, %d, %v; want %d, %d", listed(l), by, low, high, goal, m, v, err, n, most)
	}
}

func refuseMost(t *testing.T, l []api.Filled, by api.Cell, low, high int, goal api.Cell, wrong api.Errno) {
	t.Helper()
	if n, v, err := seek.Most(l, by, low, high, goal); n != 0 || v != 0 || plain.Told(err) != wrong {
		t.Errorf("Most of %.200q, %v from %d to %d, %v: %d, %d, %v; want %v", listed(l), by, low, high, goal, n, v, err, wrong)
	}
}

func TestK1Seek(t *testing.T) {
	for _, a := range []asked{
		{"A1 1; B1 =A1*A1", "A1", 0, 20, "B1", 49, 7},
		// The least one, of several.
		{"A1 1; B1 =A1*A1", "A1", -20, 20, "B1", 49, -7},
		{"A1 1; B1 =A1*A1", "A1", -6, 20, "B1", 49, 7},
		{"A1 1; B1 =A1/10", "A1", -100, 100, "B1", 0, -9},
		{"A1 1; B1 =A1/10", "A1", -100, 100, "B1", 3, 30},
		{"A1 1; B1 7", "A1", -3, 3, "B1", 7, -3},
		// By way of others, wherever they stand.
		{"A1 =B2+1; B1 5; C1 =B1-3; B2 =C1*2", "B1", 0, 100, "A1", 41, 23},
		{"A1 1; B1 2; C1 3; D1 =SUM(A1:C1)", "B1", -10, 10, "D1", 0, -4},
		{"A1 1; B1 =IF(A1>4,A1,1/0); C1 =IFBAD(B1,-1)", "A1", 0, 10, "C1", 5, 5},
		// What is bad with one number may be none with another one.
		{"A1 1; B1 =12/(A1-3)", "A1", 0, 20, "B1", 4, 6},
		// What stands in the cell does not count, whatever it is.
		{"A1 x; B1 =A1+1", "A1", 0, 9, "B1", 5, 4},
		{"A1 =7; B1 =A1+1", "A1", 0, 9, "B1", 5, 4},
		{"A1 #DIV!; B1 =A1+1", "A1", 0, 9, "B1", 5, 4},
		{"A1 =C1*0; B1 =A1+C1; C1 2", "A1", 0, 9, "B1", 5, 3},
		// The cell need be none of the sheet's.
		{"B1 =A1+1", "A1", 0, 9, "B1", 5, 4},
		{"A1 =B1+1; C1 x", "B1", 0, 9, "A1", 5, 4},
		{"A1 =Z99+1", "Z99", 0, 9, "A1", 5, 4},
		// The cell may be the goal, and the goal need not hang on it.
		{"A1 =1/0", "A1", 0, 9, "A1", 5, 5},
		{"", "A1", -9, 9, "A1", -5, -5},
		{"B1 =A1", "A1", -9, 9, "A1", 0, 0},
		{"A1 1; B1 =C1*2; C1 4", "A1", 2, 9, "B1", 8, 2},
	} {
		wantSeek(t, filled(a.sheet), a)
	}
}

// The number stands there as text, and is read as one.
func TestK1AsText(t *testing.T) {
	for _, a := range []asked{
		{"B1 =LEN(A1)", "A1", -200, 0, "B1", 3, -99},
		{"B1 =LEN(A1)", "A1", -200, 0, "B1", 1, 0},
		{"B1 =IF(A1&\"\"=\"-12\",1,0)", "A1", -20, 20, "B1", 1, -12},
		{"B1 =COUNT(A1:A2)", "A1", 5, 20, "B1", 1, 5},
		{"B1 =IF(NUMP(A1),1,0)", "A1", 5, 20, "B1", 1, 5},
		{"B1 =IF(BLANKP(A1),1,0)", "A1", 0, 0, "B1", 0, 0},
	} {
		wantSeek(t, filled(a.sheet), a)
	}
}

// A circle begins from nothing with each number, and may come or go as one stands there.
func TestK1Circles(t *testing.T) {
	for _, a := range []asked{
		{"A1 1; B1 =MIN(B1+1,A1)", "A1", 0, 30, "B1", 5, 5},
		{"A1 1; B1 =MIN(B1+1,A1)", "A1", 0, 30, "B1", 20, 20},
		{"A1 1; B1 =MIN(C1+1,A1); C1 =B1+1; D1 =B1+C1", "A1", 0, 30, "D1", 19, 9},
		// Without the formula that stood there they go round no longer.
		{"A1 =B1+1; B1 =A1*2", "A1", 0, 30, "B1", 12, 6},
		{"A1 =A1+1; B1 =A1*2", "A1", 0, 30, "B1", 12, 6},
		{"A1 =B1+1; B1 =C1+A1; C1 =MIN(C1+B1,9)", "A1", -9, 30, "B1", 12, 3},
		// What goes round beside it.
		{"A1 1; B1 =A1+C1; C1 =MIN(C1+1,4)", "A1", 0, 30, "B1", 12, 8},
	} {
		wantSeek(t, filled(a.sheet), a)
	}
	wantTable(t, filled("A1 1; B1 =IF(A1>2,IF(BLANKP(B1),A1,B1),B1)"), "A1", 1, 1, 5, "B1", "- - 3 4 5")
	wantTable(t, filled("A1 1; B1 =IF(BLANKP(B1),A1,B1)"), "A1", 5, -1, 5, "B1", "5 4 3 2 1")
	wantTable(t, filled("A1 1; B1 =B1+A1; C1 =B1"), "A1", -1, 1, 3, "C1", "-20 0 20")
	wantMost(t, filled("A1 1; B1 =MIN(B1+1,A1)"), "A1", -5, 50, "B1", 20, 20)
}

// Only a number is one: no text, truth or bad one that is shown, or counts, alike, and not nothing.
func TestK1SeekNone(t *testing.T) {
	for _, a := range []asked{
		{"A1 1; B1 =A1*A1", "A1", 0, 100, "B1", 50, 0},
		{"A1 1; B1 =A1*A1", "A1", 0, 6, "B1", 49, 0},
		{"A1 1; B1 =A1*A1", "A1", 8, 90, "B1", 49, 0},
		{"B1 =A1&\"\"", "A1", 0, 9, "B1", 7, 0},
		{"B1 =A1=7", "A1", 0, 9, "B1", 1, 0},
		{"B1 =A1<>7", "A1", 0, 9, "B1", 0, 0},
		{"B1 =1/0", "A1", 0, 9, "B1", api.BadDiv, 0},
		{"B1 007", "A1", 0, 9, "B1", 7, 0},
		{"B1 =C1", "A1", 0, 9, "B1", 0, 0},
		{"B1 x", "A1", 0, 9, "C1", 0, 0},
		{"", "A1", 0, 9, "B1", 0, 0},
		{"", "A1", 0, 9, "A1", 10, 0},
		{"", "A1", 0, 9, "A1", -1, 0},
	} {
		refuseSeek(t, filled(a.sheet), at(a.by), a.low, a.high, at(a.goal), a.want, api.ErrNone)
	}
}

func TestK1SeekEdges(t *testing.T) {
	const most = 1_000_000_000
	for _, a := range []asked{
		{"", "A1", 0, 200, "A1", 200, 200},
		{"", "A1", 0, 200, "A1", 0, 0},
		{"", "A1", -100, 100, "A1", 100, 100},
		{"", "A1", 7, 7, "A1", 7, 7},
		{"", "A1", most - 200, most, "A1", most, most},
		{"", "A1", -most, -most + 200, "A1", -most, -most},
		{"", "A1", most, most, "A1", most, most},
		{"", "Z99", -most, -most, "Z99", -most, -most},
		{"A1 =B1*B1*10", "B1", 9990, 10010, "A1", most, 10000},
		{"A1 =-B1*B1*10", "B1", 9990, 10010, "A1", -most, 10000},
	} {
		wantSeek(t, filled(a.sheet), a)
	}
	refuseSeek(t, nil, at("A1"), most, most, at("A1"), -most, api.ErrNone)
	// As many cells as may be, with the one that the number stands in.
	one := full("1")
	wantSeek(t, one, asked{"", "R8", 3, 9, "R8", 5, 5})
	wantSeek(t, one, asked{"", "A1", 3, 9, "R8", 1, 3})
	wantSeek(t, one[1:], asked{"", "A1", 3, 9, "A1", 5, 5})
	wantSeek(t, one[1:], asked{"", "Z99", 3, 9, "Z99", 5, 5})
	chain := one[:1:1]
	for _, f := range one[1:] {
		chain = append(chain, api.Filled{Cell: f.Cell, Text: "=" + named(chain[len(chain)-1].Cell) + "+1"})
	}
	wantSeek(t, chain, asked{"", "A1", -500, -300, "R8", -222, -421})
	wantTable(t, chain, "A1", 0, 100, 3, "R8", "199 299 399")
	wantMost(t, chain, "A1", -500, -300, "R8", -300, -101)
}

func TestK1Table(t *testing.T) {
	for _, c := range []struct {
		sheet, by        string
		from, step, many int
		goal, want       string
	}{
		{"A1 1; B1 =A1*A1", "A1", 0, 1, 5, "B1", "0 1 4 9 16"},
		{"A1 1; B1 =A1*A1", "A1", 3, -2, 4, "B1", "9 1 1 9"},
		{"A1 1; B1 =A1*A1", "A1", 3, 0, 3, "B1", "9 9 9"},
		{"A1 1; B1 =A1*A1", "A1", 3, 5, 1, "B1", "9"},
		{"A1 1; B1 =A1*A1", "A1", 3, 5, 0, "B1", ""},
		{"A1 1; B1 =A1*A1", "B1", 3, 5, 3, "A1", "1 1 1"},
		{"A1 1; B1 =A1*A1", "B1", 3, 5, 3, "B1", "3 8 13"},
		{"A1 1; B1 =A1*A1", "B1", 3, 5, 3, "C1", "- - -"},
		// Values of all kinds.
		{"B1 =12/A1", "A1", -1, 1, 3, "B1", "-12 bad1 12"},
		{"B1 =A1&\"x\"", "A1", -1, 1, 3, "B1", `"-1x" "0x" "1x"`},
		{"B1 =A1>0", "A1", -1, 1, 3, "B1", "FALSE FALSE TRUE"},
		{"B1 =CHOOSE(A1,C1,7,\"x\",TRUE,NONE())", "A1", 0, 1, 7, "B1", `bad2 - 7 "x" TRUE bad6 bad2`},
		{"B1 =POWER(10,A1)", "A1", 17, 1, 3, "B1", "100000000000000000 1000000000000000000 bad5"},
		{"A1 007; B1 #NAME!", "C1", 1, 1, 2, "A1", `"007" "007"`},
		{"A1 007; B1 #NAME!", "C1", 1, 1, 2, "B1", "bad4 bad4"},
		{"A1 =NOT(A1); B1 =A1", "C1", 1, 1, 2, "B1", "FALSE FALSE"},
	} {
		wantTable(t, filled(c.sheet), c.by, c.from, c.step, c.many, c.goal, c.want)
	}
}

// TestK1TableEdges: what comes of from and step may be more than each of them may be.
func TestK1TableEdges(t *testing.T) {
	const most = 1_000_000_000
	for _, step := range []int{most, -most, most - 1, 0, 1} {
		for _, from := range []int{most, -most, 0} {
			var alone, twice []string
			for i := range 200 {
				alone = append(alone, strconv.Itoa(from+i*step))
				twice = append(twice, strconv.Itoa(2*(from+i*step)))
			}
			wantTable(t, nil, "A1", from, step, 200, "A1", strings.Join(alone, " "))
			wantTable(t, filled("A1 =B1*2"), "B1", from, step, 200, "A1", strings.Join(twice, " "))
		}
	}
	one := full("1")
	wantTable(t, one, "A1", 5, 1, 2, "A1", "5 6")
	wantTable(t, one[1:], "Z99", 5, 1, 2, "Z99", "5 6")
}

func TestK1Most(t *testing.T) {
	for _, c := range []struct {
		sheet, by string
		low, high int
		goal      string
		n, most   int
	}{
		{"A1 1; B1 =A1*(10-A1)", "A1", 0, 20, "B1", 5, 25},
		{"A1 1; B1 =A1*(11-A1)", "A1", 0, 20, "B1", 5, 30},
		{"A1 1; B1 =A1*A1", "A1", -7, 7, "B1", -7, 49},
		{"A1 1; B1 =A1*A1", "A1", -6, 7, "B1", 7, 49},
		{"A1 1; B1 =-A1*A1-3", "A1", -6, 7, "B1", 0, -3},
		{"A1 1; B1 =0*A1", "A1", -6, 7, "B1", -6, 0},
		{"A1 1; B1 =-1", "A1", -6, 7, "B1", -6, -1},
		{"A1 1; B1 =A1/5", "A1", -6, 12, "B1", 10, 2},
		// Of what is no number nothing counts, though it stand behind numbers.
		{"B1 =12/A1", "A1", -3, 3, "B1", 1, 12},
		{"B1 =12/A1", "A1", -3, 0, "B1", -3, -4},
		{"B1 =IF(A1=4,-100,A1>4)", "A1", 0, 9, "B1", 4, -100},
		{"B1 =IF(A1=4,-100,A1&\"\")", "A1", 0, 9, "B1", 4, -100},
		{"B1 =IF(A1=4,-100,C1)", "A1", 0, 9, "B1", 4, -100},
		{"B1 =IF(A1=9,-100,1/0)", "A1", 0, 9, "B1", 9, -100},
		{"B1 =POWER(10,A1)", "A1", 0, 30, "B1", 18, 1000000000000000000},
		// The cell may be the goal.
		{"", "A1", -9, -3, "A1", -3, -3},
		{"A1 =1/0", "A1", 4, 4, "A1", 4, 4},
		{"", "A1", -100, 100, "A1", 100, 100},
		{"", "A1", 999999800, 1000000000, "A1", 1000000000, 1000000000},
		{"", "A1", -1000000000, -999999800, "A1", -999999800, -999999800},
		// The least numbers, and the greatest, are some, too.
		{"B1 -9223372036854775808", "A1", 3, 9, "B1", 3, math.MinInt},
		{"B1 =IF(A1<5,C1,C1+1); C1 -9223372036854775808", "A1", 3, 9, "B1", 5, math.MinInt + 1},
		{"B1 =9223372036854775807-A1*A1", "A1", -3, 9, "B1", 0, math.MaxInt},
	} {
		wantMost(t, filled(c.sheet), c.by, c.low, c.high, c.goal, c.n, c.most)
	}
	wantMost(t, full("1"), "R8", 3, 9, "R8", 9, 9)
	wantMost(t, full("1")[1:], "Z99", 3, 9, "Z99", 9, 9)
}

func TestK1MostNone(t *testing.T) {
	for _, text := range []string{"", "B1 x", "B1 =A1&\"\"", "B1 =A1=3", "B1 =1/0", "B1 =A1/0", "B1 =C1", "B1 007", "B1 =B1", "B1 =NOT(B1)", "B1 =SUM(B1:B2)/0"} {
		refuseMost(t, filled(text), at("A1"), 0, 200, at("B1"), api.ErrNone)
	}
}

// refuseLawful asks all three, with numbers that may be.
func refuseLawful(t *testing.T, l []api.Filled, by, goal api.Cell, wrong api.Errno) {
	t.Helper()
	refuseSeek(t, l, by, 0, 9, goal, 3, wrong)
	refuseTable(t, l, by, 0, 1, 3, goal, wrong)
	refuseTable(t, l, by, 0, 1, 0, goal, wrong)
	refuseMost(t, l, by, 0, 9, goal, wrong)
}

// refuseUnlawful asks all three, with numbers that may not be.
func refuseUnlawful(t *testing.T, l []api.Filled, by, goal api.Cell, wrong api.Errno) {
	t.Helper()
	refuseSeek(t, l, by, 9, 0, goal, 3, wrong)
	refuseTable(t, l, by, 0, 1, -1, goal, wrong)
	refuseMost(t, l, by, 9, 0, goal, wrong)
}

// refuseAll is for what is told whether the numbers may be or not.
func refuseAll(t *testing.T, l []api.Filled, by, goal api.Cell, wrong api.Errno) {
	t.Helper()
	refuseLawful(t, l, by, goal, wrong)
	refuseUnlawful(t, l, by, goal, wrong)
}

// noCells lie just beside the sheet, or far off.
func noCells() []api.Cell {
	return []api.Cell{
		{}, {Col: 0, Row: 1}, {Col: 27, Row: 1}, {Col: 1, Row: 0}, {Col: 1, Row: 100}, {Col: -1, Row: 1}, {Col: 1, Row: -1},
		{Col: math.MaxInt, Row: math.MaxInt}, {Col: math.MinInt, Row: math.MinInt}, {Col: 1<<32 + 1, Row: 1},
	}
}

func TestK1SheetFaults(t *testing.T) {
	long := strings.Repeat("x", api.MaxText+1)
	cases := []struct {
		l    []api.Filled
		want api.Errno
	}{
		{append(full("1"), filled("Z99 1")...), api.ErrFull},
		{append(full("="), api.Filled{}), api.ErrFull},
		{filled("A1 " + long), api.ErrFull},
		{filled("B1 1; A1 2"), api.ErrOrder},
		{filled("A1 1; A1 1"), api.ErrOrder},
		{filled("A2 1; Z1 2"), api.ErrOrder},
		{filled("A1 "), api.ErrShape},
		{filled("A1 1; B1 ; C1 ="), api.ErrShape},
		{filled("A1 =1+"), api.ErrSyntax},
		{filled("A1 1; B1 =a1"), api.ErrSyntax},
		{filled("A1 ="), api.ErrSyntax},
		{filled("A1 =" + strings.Repeat("-", api.MaxDepth+1) + "1"), api.ErrSyntax},
		{filled("A1 =(; A1 1"), api.ErrSyntax},
	}
	for _, c := range noCells() {
		cases = append(cases, struct {
			l    []api.Filled
			want api.Errno
		}{[]api.Filled{{Cell: c, Text: "1"}}, api.ErrRange})
	}
	for _, c := range cases {
		// Also of the cell in which a number is to stand.
		refuseAll(t, c.l, at("A1"), at("B1"), c.want)
		refuseAll(t, c.l, at("B1"), at("A1"), c.want)
		refuseAll(t, c.l, at("C9"), at("D9"), c.want)
		for _, none := range noCells() {
			refuseAll(t, c.l, none, at("A1"), c.want)
			refuseAll(t, c.l, at("A1"), none, c.want)
		}
	}
}

func TestK1CellFaults(t *testing.T) {
	for _, l := range [][]api.Filled{nil, filled("A1 1; B1 =A1"), full("1")} {
		for _, c := range noCells() {
			refuseAll(t, l, c, at("A1"), api.ErrRange)
			refuseAll(t, l, at("A1"), c, api.ErrRange)
			refuseAll(t, l, at("Z99"), c, api.ErrRange)
			refuseAll(t, l, c, c, api.ErrRange)
		}
	}
}

func TestK1NumberFaults(t *testing.T) {
	const most = 1_000_000_000
	sheets := [][]api.Filled{nil, filled("A1 1; B1 =A1"), full("1")}
	for _, l := range sheets {
		for _, by := range []api.Cell{at("A1"), at("Z99")} {
			for _, span := range [][2]int{
				{1, 0}, {0, 201}, {-201, 0}, {-101, 100}, {0, -200}, {most, most - 1}, {most, most + 1}, {most + 1, most + 1}, {-most - 1, -most}, {-most - 1, -most - 1}, {-most, most},
				{math.MinInt, math.MinInt}, {math.MaxInt, math.MaxInt}, {math.MinInt, math.MaxInt}, {math.MaxInt, math.MinInt}, {math.MaxInt - 100, math.MinInt + 99}, {math.MinInt, -most}, {most, math.MaxInt},
			} {
				refuseSeek(t, l, by, span[0], span[1], by, 0, api.ErrRange)
				refuseMost(t, l, by, span[0], span[1], by, api.ErrRange)
			}
			for _, n := range []int{most + 1, -most - 1, math.MaxInt, math.MinInt} {
				refuseSeek(t, l, by, 0, 1, by, n, api.ErrRange)
				refuseTable(t, l, by, n, 1, 1, by, api.ErrRange)
				refuseTable(t, l, by, n, 1, 0, by, api.ErrRange)
				refuseTable(t, l, by, 1, n, 1, by, api.ErrRange)
				refuseTable(t, l, by, 1, n, 0, by, api.ErrRange)
			}
			for _, many := range []int{-1, 201, math.MaxInt, math.MinInt} {
				refuseTable(t, l, by, 0, 1, many, by, api.ErrRange)
			}
		}
	}
}

// TestK1Full: a number that stands where nothing stood may be one cell too many, whatever the goal is. What is wrong with cells and numbers is told ahead of that.
func TestK1Full(t *testing.T) {
	one := full("1")
	other := append(one[1:200:200], filled("Z99 =A1")...)
	for _, goal := range []string{"A1", "S8", "Z99", "B50"} {
		for _, c := range []struct {
			l  []api.Filled
			by string
		}{{one, "S8"}, {one, "Z99"}, {other, "A1"}} {
			refuseLawful(t, c.l, at(c.by), at(goal), api.ErrFull)
			refuseUnlawful(t, c.l, at(c.by), at(goal), api.ErrRange)
		}
	}
}

// Nothing that is handed in is written into or kept, what lies behind its length is neither read nor written, and what comes out is the caller's.
func TestK1Fresh(t *testing.T) {
	const stands = "A1 1; B1 =A1*2; C1 =MIN(C1+1,A1)&B1; B9 =A1; A1 ="
	l := filled(stands)
	for range 3 {
		for _, by := range []string{"A1", "D1", "A2"} {
			v, err := seek.Table(l[:3], at(by), 4, 1, 2, at("C1"))
			want := `"12" "12"`
			if by == "A1" {
				want = `"48" "510"`
			}
			if seenAll(v) != want || err != nil {
				t.Fatalf("Table by %s: %s, %v", by, seenAll(v), err)
			}
			for i := range v[:cap(v)] {
				v[:cap(v)][i] = api.Value{Kind: api.Text, Text: "spoilt"}
			}
		}
		wantSeek(t, l[:3], asked{"", "A1", 0, 9, "B1", 8, 4})
		wantMost(t, l[:3], "A1", 0, 9, "B1", 9, 18)
		refuseSeek(t, l[:3], at("A1"), 0, 9, at("B9"), 4, api.ErrNone)
	}
	if !slices.Equal(l, filled(stands)) {
		t.Errorf("what was handed in was written into: %s", listed(l))
	}
}
