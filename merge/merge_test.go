package merge_test

import (
	"fmt"
	"math"
	"slices"
	"strconv"
	"strings"
	"testing"

	"sccsettle/api"
	"sccsettle/merge"
	"sccsettle/plain"
)

// at reads a cell's name, without the program's own words for it.
func at(name string) api.Cell {
	row, err := strconv.Atoi(name[1:])
	if err != nil {
		panic(name)
	}
	return api.Cell{Col: int(name[0]-'A') + 1, Row: row}
}

func named(cells []api.Cell) string {
	var words []string
	for _, c := range cells {
		words = append(words, fmt.Sprintf("%c%d", 'A'+c.Col-1, c.Row))
	}
	return strings.Join(words, " ")
}

// filled reads cells with their texts: "A1 =B1; B1 ".
func filled(text string) (l []api.Filled) {
	if text == "" {
		return nil
	}
	for _, word := range strings.Split(text, "; ") {
		name, of, _ := strings.Cut(word, " ")
		l = append(l, api.Filled{Cell: at(name), Text: of})
	}
	return l
}

func listed(l []api.Filled) string {
	var words []string
	for _, f := range l {
		words = append(words, named([]api.Cell{f.Cell})+" "+f.Text)
	}
	return strings.Join(words, "; ")
}

// rows has the first cells from a row on, as they stand, with one text.
func rows(from, many int, text string) (l []api.Filled) {
	for i := range many {
		l = append(l, api.Filled{Cell: api.Cell{Col: i%26 + 1, Row: from + i/26}, Text: text})
	}
	return l
}

// full has as many cells as may be: A1 to Z7, and A8 to R8.
func full(text string) []api.Filled { return rows(1, api.MaxCells, text) }

// listFault is a list, and what is wrong with it.
type listFault struct {
	l    []api.Filled
	want api.Errno
}

// faulty are lists that are none of a sheet's, nor texts that one may have.
func faulty() []listFault {
	long := strings.Repeat("x", api.MaxText+1)
	l := []listFault{
		{filled("B1 1; A1 2"), api.ErrOrder},
		{filled("A2 1; Z1 2"), api.ErrOrder},
		{filled("A1 1; A1 1"), api.ErrOrder},
		{filled("A1 1; C1 2; B1 " + long), api.ErrOrder},
		{filled("A1 1; C1 2; B1 ="), api.ErrOrder},
		{filled("A1 " + long), api.ErrFull},
		{filled("A1 1; Z99 =1" + strings.Repeat(" ", 199)), api.ErrFull},
		{filled("A1 1; B1 =" + long + "; A1 2"), api.ErrFull},
		{filled("A1 1; Z99 ="), api.ErrSyntax},
		{filled("A1 =A100; A1 1"), api.ErrSyntax},
		{filled("A1 =1+; B1 " + long), api.ErrSyntax},
		{filled("A1 =a1"), api.ErrSyntax},
		{filled("A1 =" + strings.Repeat("-", api.MaxDepth+1) + "1"), api.ErrSyntax},
	}
	for _, c := range []api.Cell{
		{}, {Col: 1}, {Row: 1}, {Col: 27, Row: 1}, {Col: 1, Row: 100}, {Col: -1, Row: 1}, {Col: 1, Row: -1},
		{Col: math.MaxInt, Row: math.MaxInt}, {Col: math.MinInt, Row: math.MinInt}, {Col: 1<<32 + 1, Row: 1},
	} {
		for _, text := range []string{"1", "", "=", long} {
			l = append(l, listFault{[]api.Filled{{Cell: c, Text: text}}, api.ErrRange})
			// It would not stand in order, either.
			l = append(l, listFault{append(filled("Z99 1"), api.Filled{Cell: c, Text: text}), api.ErrRange})
		}
	}
	return l
}

// noSheets are the faulty lists, and those of which Apply takes as texts what no sheet has.
func noSheets() []listFault {
	return append(faulty(),
		listFault{filled("A1 "), api.ErrShape},
		listFault{filled("A1 1; B1 ; C1 ="), api.ErrShape},
		listFault{append(full("="), api.Filled{}), api.ErrFull},
	)
}

// wantDiff asks for what is another one, and that it makes of the one sheet the other.
func wantDiff(t *testing.T, a, b, want []api.Filled) {
	t.Helper()
	got, err := merge.Diff(a, b)
	if !slices.Equal(got, want) || err != nil {
		t.Errorf("Diff of %.200q, %.200q: %.200q, %v; want %.200q", listed(a), listed(b), listed(got), err, listed(want))
	}
	wantApplied(t, a, got, b)
}

func wantApplied(t *testing.T, l, d, want []api.Filled) {
	t.Helper()
	if got, err := merge.Apply(l, d); !slices.Equal(got, want) || err != nil {
		t.Errorf("Apply to %.200q of %.200q: %.200q, %v; want %.200q", listed(l), listed(d), listed(got), err, listed(want))
	}
}

func wantThree(t *testing.T, base, a, b, want []api.Filled, cells string) {
	t.Helper()
	got, told, err := merge.Three(base, a, b)
	if !slices.Equal(got, want) || named(told) != cells || err != nil {
		t.Errorf("Three of %.200q, %.200q, %.200q: %.200q, %s, %v; want %.200q, %s", listed(base), listed(a), listed(b), listed(got), named(told), err, listed(want), cells)
	}
}

func refuseDiff(t *testing.T, a, b []api.Filled, want api.Errno) {
	t.Helper()
	if got, err := merge.Diff(a, b); len(got) != 0 || plain.Told(err) != want {
		t.Errorf("Diff of %.200v, %.200v: %.200q, %v; want %v", a, b, listed(got), err, want)
	}
}

func refuseApply(t *testing.T, l, d []api.Filled, want api.Errno) {
	t.Helper()
	if got, err := merge.Apply(l, d); len(got) != 0 || plain.Told(err) != want {
		t.Errorf("Apply to %.200v of %.200v: %.200q, %v; want %v", l, d, listed(got), err, want)
	}
}

func refuseThree(t *testing.T, base, a, b []api.Filled, want api.Errno) {
	t.Helper()
	if got, told, err := merge.Three(base, a, b); len(got) != 0 || len(told) != 0 || plain.Told(err) != want {
		t.Errorf("Three of %.200v, %.200v, %.200v: %.200q, %v, %v; want %v", base, a, b, listed(got), told, err, want)
	}
}

func TestM1Diff(t *testing.T) {
	for _, c := range []struct{ a, b, want string }{
		{"", "", ""},
		{"A1 1", "A1 1", ""},
		{"A1 1", "A1 2", "A1 2"},
		{"", "A1 1", "A1 1"},
		{"A1 1", "", "A1 "},
		{"A1 1; B1 2", "A1 1; C1 2", "B1 ; C1 2"},
		{"B1 =A1; A2 x", "A1 1; B1 =A2", "A1 1; B1 =A2; A2 "},
		// As they stand: row by row, whichever sheet has them.
		{"Z1 1; A3 1", "A2 1; B3 1", "Z1 ; A2 1; A3 ; B3 1"},
		{"A2 1", "Z1 1", "Z1 1; A2 "},
		{"A1 1; Z99 2", "A1 2; Z99 1", "A1 2; Z99 1"},
		// Texts are held against each other, not what they come to.
		{"A1 1", "A1 01", "A1 01"},
		{"A1 =B1", "A1 = B1", "A1 = B1"},
		{"A1 =(B1)", "A1 =B1", "A1 =B1"},
		{"A1 x", "A1 X", "A1 X"},
		{"A1  ", "A1   ", "A1   "},
		{"A1 \xff", "A1 \xfe", "A1 \xfe"},
		{"A1 \x00", "A1 \x00\x00", "A1 \x00\x00"},
		{"A1 =B1; B1 =A1", "A1 =B1; B1 =A1+1", "B1 =A1+1"},
	} {
		wantDiff(t, filled(c.a), filled(c.b), filled(c.want))
	}
}

// TestM1DiffEdges: full sheets, which may have no cell in common.
func TestM1DiffEdges(t *testing.T) {
	one, two, off := full("1"), full("2"), rows(20, api.MaxCells, "1")
	wantDiff(t, one, one, nil)
	wantDiff(t, one, two, two)
	wantDiff(t, nil, one, one)
	wantDiff(t, one, nil, rows(1, api.MaxCells, ""))
	wantDiff(t, one, off, append(rows(1, api.MaxCells, ""), off...))
	wantDiff(t, off, one, append(slices.Clone(one), rows(20, api.MaxCells, "")...))
	long := strings.Repeat("x", api.MaxText-1)
	wantDiff(t, full(long+"x"), full(long+"y"), full(long+"y"))
	for row := 1; row <= 99; row++ {
		for col := 1; col <= 26; col++ {
			f := api.Filled{Cell: api.Cell{Col: col, Row: row}, Text: "x"}
			blank := api.Filled{Cell: f.Cell}
			wantDiff(t, nil, []api.Filled{f}, []api.Filled{f})
			wantDiff(t, []api.Filled{f}, nil, []api.Filled{blank})
		}
	}
}

func TestM1DiffFaults(t *testing.T) {
	for _, c := range noSheets() {
		refuseDiff(t, c.l, filled("A1 1"), c.want)
		refuseDiff(t, filled("A1 1"), c.l, c.want)
		refuseDiff(t, c.l, c.l, c.want)
		refuseDiff(t, nil, c.l, c.want)
		refuseDiff(t, full("1"), c.l, c.want)
		// What is wrong with the first one is told, whatever is wrong with the second one.
		for _, other := range noSheets() {
			refuseDiff(t, c.l, other.l, c.want)
		}
	}
}

func TestM1Apply(t *testing.T) {
	for _, c := range []struct{ l, d, want string }{
		{"", "", ""},
		{"A1 1", "", "A1 1"},
		{"", "A1 1", "A1 1"},
		{"A1 1", "A1 2", "A1 2"},
		{"A1 1", "A1 1", "A1 1"},
		{"A1 1", "A1 ", ""},
		// What is blank may become so again.
		{"", "A1 ", ""},
		{"A1 1", "B1 ; Z99 ", "A1 1"},
		{"B1 1; A2 2", "A1 =B1; B1 ; C1 3; Z99 =Z99", "A1 =B1; C1 3; A2 2; Z99 =Z99"},
		{"A1 1; B1 2; C1 3", "B1 ", "A1 1; C1 3"},
		{"A1 1; B1 2; C1 3", "A1 ; C1 ", "B1 2"},
		{"Z1 1; A3 1", "A2 1; B3 1", "Z1 1; A2 1; A3 1; B3 1"},
		// Formulas stay as they are, and circles are lawful.
		{"A1 =B1+1; C1 = ( A1 ) ", "B1 =A1", "A1 =B1+1; B1 =A1; C1 = ( A1 ) "},
		{"A1 1", "B1 \x00\xff; C1 a\nb", "A1 1; B1 \x00\xff; C1 a\nb"},
	} {
		wantApplied(t, filled(c.l), filled(c.d), filled(c.want))
	}
}

// TestM1ApplyEdges: as many cells as may be, and more texts than that.
func TestM1ApplyEdges(t *testing.T) {
	one := full("1")
	more := rows(8, 81, "2")[18:] // S8 on, where the full sheet ends
	blank := rows(1, api.MaxCells, "")
	long := strings.Repeat("x", api.MaxText)
	wantApplied(t, nil, one, one)
	wantApplied(t, one, blank, nil)
	wantApplied(t, one, full(long), full(long))
	wantApplied(t, one[1:], one[:1], one)
	wantApplied(t, one[:137], more, append(one[:137:137], more...))
	wantApplied(t, one, append(filled("A1 "), more[0]), append(one[1:200:200], more[0]))
	wantApplied(t, one, append(blank[:63:63], more...), append(one[63:200:200], more...))
	// All texts of a sheet as great as can be: no more than MaxCells are left.
	wantApplied(t, one, rows(1, 26*99, ""), nil)
	wantApplied(t, one, append(append(blank[:len(blank):len(blank)], rows(8, 234, "")[18:]...), rows(17, api.MaxCells, "=A1")...), rows(17, api.MaxCells, "=A1"))
	wantApplied(t, one, rows(8, 26*92, "")[18:], one)
	wantApplied(t, nil, filled("A1 ="+strings.Repeat("-", api.MaxDepth)+"1"), filled("A1 ="+strings.Repeat("-", api.MaxDepth)+"1"))
}

func TestM1ApplyFaults(t *testing.T) {
	for _, c := range noSheets() {
		refuseApply(t, c.l, nil, c.want)
		refuseApply(t, c.l, filled("A1 "), c.want)
		// The sheet comes first.
		for _, other := range faulty() {
			refuseApply(t, c.l, other.l, c.want)
		}
		refuseApply(t, c.l, rows(1, api.MaxCells+1, "1"), c.want)
	}
	one := full("1")
	for _, c := range faulty() {
		refuseApply(t, nil, c.l, c.want)
		refuseApply(t, filled("A1 1; B1 2"), c.l, c.want)
		refuseApply(t, one, c.l, c.want)
	}
	// Named ahead of too many cells.
	many := rows(1, 26*98, "1")
	refuseApply(t, nil, append(many[:len(many):len(many)], api.Filled{Cell: at("Z98")}), api.ErrOrder)
	refuseApply(t, one, append(many[:len(many):len(many)], filled("Z99 =")...), api.ErrSyntax)
	refuseApply(t, one, append(many[:len(many):len(many)], api.Filled{Cell: api.Cell{Col: 1, Row: 100}}), api.ErrRange)
	for _, d := range [][]api.Filled{
		rows(1, api.MaxCells+1, "1"), rows(1, 26*99, "1"),
	} {
		refuseApply(t, nil, d, api.ErrFull)
		refuseApply(t, one, d, api.ErrFull)
	}
	refuseApply(t, one, filled("S8 1"), api.ErrFull)
	refuseApply(t, one, filled("A1 ; S8 1; T8 2"), api.ErrFull)
	refuseApply(t, one, filled("A1 2; S8 1; T8 "), api.ErrFull)
	refuseApply(t, one[1:], filled("A1 1; Z99 1"), api.ErrFull)
	// More texts than there are cells cannot stand in order.
	refuseApply(t, nil, append(rows(1, 26*99, ""), api.Filled{Cell: at("A1")}), api.ErrOrder)
	refuseApply(t, nil, rows(1, 26*100, ""), api.ErrRange)
	refuseApply(t, nil, make([]api.Filled, 1<<20), api.ErrRange)
}

func TestM1Three(t *testing.T) {
	for _, c := range []struct{ base, a, b, want, told string }{
		{"", "", "", "", ""},
		{"A1 1", "A1 1", "A1 1", "A1 1", ""},
		// One changed it.
		{"A1 1", "A1 2", "A1 1", "A1 2", ""},
		{"A1 1", "A1 1", "A1 2", "A1 2", ""},
		{"", "A1 1", "", "A1 1", ""},
		{"", "", "A1 1", "A1 1", ""},
		{"A1 1", "", "A1 1", "", ""},
		{"A1 1", "A1 1", "", "", ""},
		// Both did, and alike.
		{"A1 1", "A1 2", "A1 2", "A1 2", ""},
		{"", "A1 1", "A1 1", "A1 1", ""},
		{"A1 1", "", "", "", ""},
		// Both did, and not alike.
		{"A1 1", "A1 2", "A1 3", "A1 2", "A1"},
		{"", "A1 1", "A1 2", "A1 1", "A1"},
		{"A1 1", "", "A1 2", "", "A1"},
		{"A1 1", "A1 2", "", "A1 2", "A1"},
		{"A1 =B1", "A1 = B1", "A1 =(B1)", "A1 = B1", "A1"},
		{"A1 1", "A1 01", "A1 1 ", "A1 01", "A1"},
		// Each changed other cells.
		{"A1 1; B1 2; C1 3", "A1 2; B1 2; D1 4", "A1 1; B1 5; C1 3; E1 =A1", "A1 2; B1 5; D1 4; E1 =A1", ""},
		// As they stand: row by row, whoever has them.
		{"Z1 1; A2 1; A3 1", "Z1 2; B3 2", "A1 1; A2 2; B3 3", "A1 1; Z1 2; B3 2", "Z1 A2 B3"},
		{"A2 1; Z99 1", "Z1 1", "Z1 2; A2 2; Z99 2", "Z1 1", "Z1 A2 Z99"},
		// Formulas stay as they are, and circles that come of it are lawful.
		{"A1 1; B1 1", "A1 =B1; B1 1", "A1 1; B1 =A1", "A1 =B1; B1 =A1", ""},
		{"A1 \xff", "A1 \x00", "A1 \x00\x00", "A1 \x00", "A1"},
	} {
		wantThree(t, filled(c.base), filled(c.a), filled(c.b), filled(c.want), c.told)
	}
}

// TestM1ThreeEdges: full sheets, and as many cells told as there can be.
func TestM1ThreeEdges(t *testing.T) {
	one, two, off := full("1"), full("2"), rows(20, api.MaxCells, "1")
	var all []api.Cell
	for _, f := range one {
		all = append(all, f.Cell)
	}
	wantThree(t, one, one, one, one, "")
	wantThree(t, one, two, one, two, "")
	wantThree(t, one, one, two, two, "")
	wantThree(t, one, two, full("3"), two, named(all))
	wantThree(t, one, nil, two, nil, named(all))
	wantThree(t, one, two, nil, two, named(all))
	wantThree(t, nil, one, two, one, named(all))
	wantThree(t, one, off, one, off, "")
	wantThree(t, one, nil, off, off, "")
	wantThree(t, one, off, two, off, named(all))
	// One more, and as many gone.
	wantThree(t, one[:199], one[:198], append(one[:199:199], filled("S8 1")...), append(one[:198:198], filled("S8 1")...), "")
	wantThree(t, one, one[1:], append(filled("A1 2"), one[1:]...), one[1:], "A1")
	wantThree(t, one[100:], one[100:], one, one, "")
	wantThree(t, nil, one[:100], one[100:], one, "")
	wantThree(t, nil, one[:150], append(filled("A1 2"), one[100:]...), one, "A1")
}

func TestM1ThreeFaults(t *testing.T) {
	good := filled("A1 1; C1 x")
	for _, c := range noSheets() {
		refuseThree(t, c.l, good, good, c.want)
		refuseThree(t, good, c.l, good, c.want)
		refuseThree(t, good, good, c.l, c.want)
		refuseThree(t, good, filled("A1 2"), c.l, c.want)
		refuseThree(t, nil, nil, c.l, c.want)
		// The first of the three that is none is told.
		for _, other := range noSheets() {
			refuseThree(t, c.l, other.l, good, c.want)
			refuseThree(t, c.l, good, other.l, c.want)
			refuseThree(t, good, c.l, other.l, c.want)
		}
		// Named ahead of too many cells.
		refuseThree(t, c.l, full("1"), filled("Z99 1"), c.want)
	}
	// More than MaxCells, with or without a cell to be told.
	one := full("1")
	refuseThree(t, nil, one, filled("Z99 1"), api.ErrFull)
	refuseThree(t, nil, filled("Z99 1"), one, api.ErrFull)
	refuseThree(t, one[1:], one, append(one[1:200:200], filled("Z99 1")...), api.ErrFull)
	refuseThree(t, nil, one, rows(20, api.MaxCells, "1"), api.ErrFull)
	refuseThree(t, filled("A1 1"), append(filled("A1 2"), one[1:]...), filled("A1 3; Z99 1"), api.ErrFull)
	refuseThree(t, filled("A1 1"), full("2"), filled("Z99 1"), api.ErrFull)
}

// Nothing that is handed in is written into or kept, what lies behind its length is neither read nor written, and what comes out is the caller's.
func TestM1Fresh(t *testing.T) {
	const behind = "; Z98 1; A1 ; A1 ="
	base, a, b := filled("A1 1; B1 2; C1 =A1"+behind), filled("A1 2; B1 2; D1 4"+behind), filled("A1 3; B1 5; C1 =A1"+behind)
	short := func(l []api.Filled) []api.Filled { return l[:3] }
	for range 3 {
		d, err := merge.Diff(short(base), short(a))
		if listed(d) != "A1 2; C1 ; D1 4" || err != nil {
			t.Fatalf("Diff: %s, %v", listed(d), err)
		}
		l, err := merge.Apply(short(base), d)
		if listed(l) != "A1 2; B1 2; D1 4" || err != nil {
			t.Fatalf("Apply: %s, %v", listed(l), err)
		}
		spoil(l)
		if listed(d) != "A1 2; C1 ; D1 4" {
			t.Fatalf("Apply kept what was handed in: %s", listed(d))
		}
		spoil(d)
		// Nothing is changed, and yet it is another list.
		l, _ = merge.Apply(short(base), nil)
		spoil(l)
		l, _ = merge.Apply(nil, short(base))
		spoil(l)
		l, _, _ = merge.Three(short(base), short(base), short(base))
		spoil(l)
		l, cells, err := merge.Three(short(base), short(a), short(b))
		if listed(l) != "A1 2; B1 5; D1 4" || named(cells) != "A1" || err != nil {
			t.Fatalf("Three: %s, %s, %v", listed(l), named(cells), err)
		}
		spoil(l)
		for i := range cells[:cap(cells)] {
			cells[:cap(cells)][i] = api.Cell{}
		}
	}
	if listed(base) != "A1 1; B1 2; C1 =A1"+behind || listed(a) != "A1 2; B1 2; D1 4"+behind || listed(b) != "A1 3; B1 5; C1 =A1"+behind {
		t.Errorf("what was handed in was written into: %s, %s, %s", listed(base), listed(a), listed(b))
	}
}

// spoil writes into all that a list has in its memory.
func spoil(l []api.Filled) {
	l = l[:cap(l)]
	for i := range l {
		l[i] = api.Filled{Text: "spoilt"}
	}
}
