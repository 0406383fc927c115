package sheet_test

import (
	"fmt"
	"slices"
	"strconv"
	"strings"
	"testing"

	"sccsettle/api"
	"sccsettle/plain"
	"sccsettle/settle"
	"sccsettle/sheet"
)

// at reads a cell's name, without the program's own words for it.
func at(name string) api.Cell {
	row, err := strconv.Atoi(name[1:])
	if err != nil {
		panic(name)
	}
	return api.Cell{Col: int(name[0]-'A') + 1, Row: row}
}

func named(c api.Cell) string { return fmt.Sprintf("%c%d", 'A'+c.Col-1, c.Row) }

// names of cells, by blanks.
func names(cells []api.Cell) string {
	var words []string
	for _, c := range cells {
		words = append(words, named(c))
	}
	return strings.Join(words, " ")
}

// seen writes a value so that its kind is seen: blank is -, a text is quoted.
func seen(v api.Value) string {
	switch v {
	case api.Value{}:
		return "-"
	case api.Value{Kind: api.Number, Num: v.Num}:
		return strconv.Itoa(v.Num)
	case api.Value{Kind: api.Text, Text: v.Text}:
		return strconv.Quote(v.Text)
	case api.Value{Kind: api.Truth, Num: 1}:
		return "TRUE"
	case api.Value{Kind: api.Truth}:
		return "FALSE"
	case api.Value{Kind: api.Bad, Num: v.Num}:
		return "bad" + strconv.Itoa(v.Num)
	}
	return fmt.Sprintf("no value: %#v", v)
}

// told: a cell, its value and, of a circle, how it ended: "A1 5 settled 6".
func told(s api.Shown) string {
	word := named(s.Cell) + " " + seen(s.Value)
	switch {
	case s.State == api.Settled:
		return word + " settled " + strconv.Itoa(s.Round)
	case s.State == api.Stopped:
		return word + " stopped " + strconv.Itoa(s.Round)
	case s.State != api.Plain || s.Round != 0:
		return fmt.Sprintf("no state: %#v", s)
	}
	return word
}

func toldAll(l []api.Shown) string {
	var words []string
	for _, s := range l {
		words = append(words, told(s))
	}
	return strings.Join(words, "; ")
}

// listed: "A1 =B1; B1 1".
func listed(l []api.Filled) string {
	var words []string
	for _, f := range l {
		words = append(words, named(f.Cell)+" "+f.Text)
	}
	return strings.Join(words, "; ")
}

// set does what a text says, one after the other: "A1 =B1; B1 1; A1 ".
func set(t *testing.T, s *sheet.Sheet, text string) {
	t.Helper()
	for _, word := range strings.Split(text, "; ") {
		name, of, _ := strings.Cut(word, " ")
		if err := s.Set(at(name), of); err != nil {
			t.Fatalf("Set(%s, %q): %v", name, of, err)
		}
	}
}

// made by Sets.
func made(t *testing.T, text string) *sheet.Sheet {
	t.Helper()
	s := sheet.New()
	if text != "" {
		set(t, s, text)
	}
	return s
}

func wantAll(t *testing.T, s *sheet.Sheet, want string) {
	t.Helper()
	if got := toldAll(s.All()); got != want {
		t.Errorf("All of %s: %s; want %s", listed(s.List()), got, want)
	}
}

func wantWork(t *testing.T, s *sheet.Sheet, want int) {
	t.Helper()
	if got := s.Work(); got != want {
		t.Errorf("Work at %s: %d; want %d", listed(s.List()), got, want)
	}
}

func wantChanged(t *testing.T, s *sheet.Sheet, want string) {
	t.Helper()
	if got := names(s.Changed()); got != want {
		t.Errorf("Changed at %s: %s; want %s", listed(s.List()), got, want)
	}
}

// fullSheet has as many cells as may be, row by row, with one text; R8 is the last one of them.
func fullSheet(t *testing.T, text string) *sheet.Sheet {
	t.Helper()
	s := sheet.New()
	for i := range api.MaxCells {
		if err := s.Set(api.Cell{Col: i%api.MaxCol + 1, Row: i/api.MaxCol + 1}, text); err != nil {
			t.Fatalf("cell %d: %v", i, err)
		}
	}
	return s
}

func TestExample(t *testing.T) {
	s := made(t, "A1 1; A2 =A1*0; A3 =A2+1")
	s.Changed()
	wantWork(t, s, 2)
	set(t, s, "A1 2")
	wantWork(t, s, 1)
	wantChanged(t, s, "A1")
	wantAll(t, s, "A1 2; A2 0; A3 1")
}

func TestH1Empty(t *testing.T) {
	s := sheet.New()
	if len(s.List()) != 0 || len(s.All()) != 0 || s.Work() != 0 || len(s.Changed()) != 0 {
		t.Errorf("a new one is not empty: %v, %v", s.List(), s.All())
	}
	for _, name := range []string{"A1", "Z99", "M50"} {
		if shown, err := s.Shown(at(name)); err != nil || shown != (api.Shown{Cell: at(name)}) {
			t.Errorf("Shown(%s): %v, %v", name, shown, err)
		}
	}
}

// Sheets that are made one by one share nothing.
func TestH1Apart(t *testing.T) {
	a, b := sheet.New(), sheet.New()
	set(t, a, "A1 1; B1 =A1")
	wantAll(t, b, "")
	wantWork(t, b, 0)
	wantChanged(t, b, "")
	wantChanged(t, a, "A1 B1")
}

// List has the cells as they stand, with the last text of each.
func TestH1List(t *testing.T) {
	cases := []struct{ sets, want string }{
		{"A1 1", "A1 1"},
		{"B2 1; A2 2; Z1 3; A1 4; Z99 5; A99 6", "A1 4; Z1 3; A2 2; B2 1; A99 6; Z99 5"},
		{"A10 1; A9 2; A2 3", "A2 3; A9 2; A10 1"},
		{"A1 1; A1 2; A1 =3", "A1 =3"},
		{"A1 1; B1 2; A1 ", "B1 2"},
		{"A1 1; A1 ; A1 ", ""},
		{"A1 ", ""},
		{"B1 2; A1 1; B1 ; C1 3; B1 4", "A1 1; B1 4; C1 3"},
		// A text stays as it is written.
		{"A1 = 1 + 2 ; B1  x ; C1 007; D1 \"", "A1 = 1 + 2 ; B1  x ; C1 007; D1 \""},
	}
	for _, c := range cases {
		if got := listed(made(t, c.sets).List()); got != c.want {
			t.Errorf("List behind %s: %s; want %s", c.sets, got, c.want)
		}
	}
}

func TestH1All(t *testing.T) {
	cases := []struct{ sets, want string }{
		{"A1 007; B1 -7; C1 TRUE; D1 #NUM!", `A1 "007"; B1 -7; C1 TRUE; D1 bad5`},
		{"B1 =A1+1; A1 3", "A1 3; B1 4"},
		{"C1 =B1*2; B1 =A1*2; A1 5; A1 6", "A1 6; B1 12; C1 24"},
		{"A1 =MIN(A1+1,5)", "A1 5 settled 6"},
		{"A1 =NOT(A1); B1 =A1", "A1 FALSE stopped 20; B1 FALSE"},
		{"A1 =Z9", "A1 -"},
		// A circle begins blank each time, whatever stood there.
		{"A1 9; A1 =MIN(A1+1,5)", "A1 5 settled 6"},
		{"A1 =A1+B1; B1 1; B1 2", "A1 40 stopped 20; B1 2"},
		{"B1 7; A1 =B1; B1 =A1", "A1 - settled 1; B1 - settled 1"},
		{"A1 =MIN(B1+1,7); B1 3; B1 =A1", "A1 7 settled 8; B1 7 settled 8"},
		// A circle that is cut is none any more.
		{"A1 =B1; B1 =MIN(A1+1,5); B1 5", "A1 5; B1 5"},
		{"A1 =B1; B1 =MIN(A1+1,5); B1 ", "A1 -"},
		{"A1 =B1; B1 =C1; C1 =MIN(A1+1,2); C1 =B1", "A1 -; B1 - settled 1; C1 - settled 1"},
	}
	for _, c := range cases {
		wantAll(t, made(t, c.sets), c.want)
	}
}

// Two circles become one, and two again.
func TestH1Joined(t *testing.T) {
	s := made(t, "A1 =B1; B1 =MIN(A1+1,3); C1 =D1; D1 =MIN(C1+1,4)")
	wantAll(t, s, "A1 3 settled 5; B1 3 settled 5; C1 4 settled 6; D1 4 settled 6")
	set(t, s, "C1 =D1+A1*0; A1 =B1+C1*0")
	wantAll(t, s, "A1 3 settled 6; B1 3 settled 6; C1 4 settled 6; D1 4 settled 6")
	set(t, s, "A1 =B1")
	wantAll(t, s, "A1 3 settled 5; B1 3 settled 5; C1 4 settled 6; D1 4 settled 6")
}

func TestH1Shown(t *testing.T) {
	s := made(t, "A1 5; B1 =B1+1; C1 =Z9; D1 x; D1 ")
	for name, want := range map[string]string{
		"A1": "A1 5", "B1": "B1 20 stopped 20", "C1": "C1 -", "D1": "D1 -", "Z9": "Z9 -",
	} {
		if shown, err := s.Shown(at(name)); err != nil || told(shown) != want {
			t.Errorf("Shown(%s): %s, %v; want %s", name, told(shown), err, want)
		}
	}
	for _, c := range []api.Cell{{}, {Col: 27, Row: 1}, {Col: 1, Row: 100}, {Col: 0, Row: 1}, {Col: 1, Row: 0}, {Col: -1, Row: -1}, {Col: -1 << 63, Row: 1<<63 - 1}} {
		if shown, err := s.Shown(c); shown != (api.Shown{}) || plain.Told(err) != api.ErrRange {
			t.Errorf("Shown(%v): %v, %v", c, shown, err)
		}
	}
}

// Of several faults the one that is named first is told; and a Set that is refused changes nothing at all.
func TestH1Faults(t *testing.T) {
	long := strings.Repeat("x", api.MaxText+1)
	none := []api.Cell{{}, {Col: 27, Row: 1}, {Col: 1, Row: 100}, {Col: 0, Row: 1}, {Col: 1, Row: 0}, {Col: -1 << 63, Row: 1<<63 - 1}}
	type fault struct {
		cell api.Cell
		text string
		want api.Errno
	}
	faults := []fault{
		{at("A1"), long, api.ErrFull},
		{at("A1"), "=" + long, api.ErrFull},
		{at("A1"), "=1" + strings.Repeat(" ", api.MaxText-1), api.ErrFull},
		{at("A1"), "=", api.ErrSyntax},
		{at("A1"), "=1+", api.ErrSyntax},
		{at("A1"), "=A100", api.ErrSyntax},
		{at("A1"), "=A1:B2", api.ErrSyntax},
		// Chapter 3 has another word for too many levels, but it is no formula.
		{at("A1"), "=" + strings.Repeat("-", api.MaxDepth+1) + "1", api.ErrSyntax},
		// A cell that is not there yet.
		{at("D4"), "=(", api.ErrSyntax},
		{at("D4"), long, api.ErrFull},
	}
	for _, c := range none {
		for _, text := range []string{"", "1", "=1", "=", long} {
			faults = append(faults, fault{c, text, api.ErrRange})
		}
	}
	s := made(t, "A1 1; B1 =A1+1; C1 =MIN(C1+A1,3)")
	s.Changed()
	s.Work()
	set(t, s, "A1 2")
	for _, f := range faults {
		if err := s.Set(f.cell, f.text); plain.Told(err) != f.want {
			t.Errorf("Set(%v, %.20q): %v; want %v", f.cell, f.text, err, f.want)
		}
		if got := listed(s.List()); got != "A1 2; B1 =A1+1; C1 =MIN(C1+A1,3)" {
			t.Fatalf("Set(%v, %.20q) is refused, and the list is %s", f.cell, f.text, got)
		}
		wantAll(t, s, "A1 2; B1 3; C1 3 settled 3")
	}
	// What was worked out, and changed, ahead of them is told still, and no more.
	wantWork(t, s, 4)
	wantChanged(t, s, "A1 B1 C1")
}

func TestH1Longest(t *testing.T) {
	s := sheet.New()
	text := strings.Repeat("x", api.MaxText)
	if err := s.Set(at("A1"), text); err != nil {
		t.Errorf("the longest text: %v", err)
	}
	if err := s.Set(at("B1"), "=1"+strings.Repeat(" ", api.MaxText-2)); err != nil {
		t.Errorf("the longest formula: %v", err)
	}
	if err := s.Set(at("C1"), "="+strings.Repeat("-", api.MaxDepth)+"1"); err != nil {
		t.Errorf("the deepest formula: %v", err)
	}
	wantAll(t, s, "A1 \""+text+"\"; B1 1; C1 1")
}

func TestH1Full(t *testing.T) {
	s := fullSheet(t, "1")
	s.Changed()
	refused := func(name, text string, want api.Errno) {
		t.Helper()
		if err := s.Set(at(name), text); plain.Told(err) != want {
			t.Errorf("Set(%s, %.20q) in a full sheet: %v; want %v", name, text, err, want)
		}
	}
	refused("S8", "1", api.ErrFull)
	refused("Z99", "=A1", api.ErrFull)
	// What is wrong with a text is told ahead of that.
	refused("S8", "=(", api.ErrSyntax)
	refused("S8", strings.Repeat("x", api.MaxText+1), api.ErrFull)
	wantWork(t, s, 0)
	wantChanged(t, s, "")
	if got := len(s.List()); got != api.MaxCells {
		t.Errorf("%d cells", got)
	}
	// What takes no room is taken.
	set(t, s, "A1 2; R8 =A1; S8 ; Z99 ")
	wantChanged(t, s, "A1 R8")
	set(t, s, "B1 ; Z99 =R8")
	wantChanged(t, s, "B1 Z99")
	refused("B1", "1", api.ErrFull)
}

// What All says hangs on the list alone, not on the way there.
func TestH1Ways(t *testing.T) {
	ways := []string{
		"A1 =B1; B1 =A1+C1; C1 1; A2 =A1",
		"A2 =A1; C1 1; B1 =A1+C1; A1 =B1",
		"C1 1; A1 5; A2 =A1; B1 =A1+C1; A1 =B1",
		"A1 =A2; A2 =A1; B1 =A1+C1; C1 2; A1 =B1; D1 =A1; C1 1; D1 ",
		"A1 =B1; B1 =A1+C1; C1 1; A2 =A1; C1 ; A2 ; A1 ; B1 ; A1 =B1; B1 =A1+C1; A2 =A1; C1 1",
	}
	for _, way := range ways {
		s := made(t, way)
		wantAll(t, s, "A1 19 stopped 20; B1 20 stopped 20; C1 1; A2 19")
		all, err := settle.All(s.List())
		if err != nil || !slices.Equal(all, s.All()) {
			t.Errorf("behind %s: settle says %s", way, toldAll(all))
		}
	}
}

// step: a Set, and what was worked out for it.
type step struct {
	set  string
	work int
}

func wantSteps(t *testing.T, steps []step) {
	t.Helper()
	s := sheet.New()
	for _, st := range steps {
		set(t, s, st.set)
		if got := s.Work(); got != st.work {
			t.Errorf("Work of %s at %s: %d; want %d", st.set, listed(s.List()), got, st.work)
		}
	}
}

// The part of the cell that is set is worked out, even if its text stays; a text without a formula never counts.
func TestH2Set(t *testing.T) {
	wantSteps(t, []step{
		{"A1 1", 0}, {"A1 1", 0}, {"B1 =1", 1}, {"B1 =1", 1}, {"B1 =1+0", 1}, {"B1 1", 0}, {"B1 ", 0}, {"B1 ", 0},
		{"C1 =MIN(C1+1,3)", 4}, {"C1 =MIN(C1+1,3)", 4}, {"C1 =NOT(C1)", 20}, {"C1 =A1", 1}, {"C1 x", 0},
	})
}

// Others are, if something that they look at has another value, and only then.
func TestH2Others(t *testing.T) {
	wantSteps(t, []step{
		{"A1 1", 0}, {"B1 =A1*0", 1}, {"C1 =B1", 1}, {"D1 =A1", 1}, {"E1 =D1+C1", 1}, {"F1 7", 0}, {"G1 =F1", 1},
		{"A1 2", 3},           // B1 is as it was, and D1 and E1 are not.
		{"A1 2", 0},           // the same
		{"A1 =2", 1},          // another text, and the same value
		{"A1 =1+1", 1},        // likewise
		{"A1 x", 4},           // B1, C1 and D1 are bad then, and E1
		{"A1 y", 3},           // B1 is bad as it was; D1 is another text; E1 is bad as it was, but looks at D1
		{"F1 8", 1},           // G1
		{"G1 =F1+Z9", 1},      // looks at what is none of the sheet's
		{"Z9 1", 1},           // which comes to be
		{"Z9 ", 1},            // and is gone
		{"H1 =IF(1,2,F1)", 1}, // it looks where it never goes
		{"F1 9", 2},
		{"F1 9", 0},
	})
}

// A value of another kind is another one, even if it is shown alike.
func TestH2Kinds(t *testing.T) {
	wantSteps(t, []step{
		{"B1 =A1", 1},
		{`A1 =""`, 2},     // ahead of this it was blank
		{`A1 =""`, 1},     // now it is not
		{"A1 1", 1},       // a number
		{`A1 ="1"`, 2},    // a text
		{"A1 TRUE", 1},    // a truth
		{`A1 ="TRUE"`, 2}, // a text
		{"A1 #DIV!", 1},
		{"A1 =1/0", 1},  // bad as it was
		{"A1 #REF!", 1}, // bad in another way
		{"A1 =Z1", 2},   // blank
		{"A1 ", 0},      // blank as it was, though gone
		{"A1 =Z1", 1},   // blank as it was, though there again
		{"A1 =Z1+0", 2}, // 0
		{"A1 0", 0},
		{"A1 FALSE", 1},
	})
}

// Of a box all cells count, those at its edges, too.
func TestH2Boxes(t *testing.T) {
	wantSteps(t, []step{
		{"A1 =SUM(B2:D4)", 1}, {"B2 1", 1}, {"D4 1", 1}, {"B4 1", 1}, {"D2 x", 1}, {"C3 1", 1},
		{"A2 1", 0}, {"B1 1", 0}, {"E4 1", 0}, {"D5 1", 0}, {"C3 1", 0}, {"C3 ", 1},
		{"E1 =ROWS(D4:B2)", 1}, {"C3 2", 2},
	})
}

// What hangs on the one that is set by way of others is worked out once, behind all that it looks at.
func TestH2Once(t *testing.T) {
	wantSteps(t, []step{
		{"A1 =B1+C1+D1", 1}, {"B1 =C1+D1", 2}, {"C1 =D1", 1}, {"D1 1", 3}, {"D1 2", 3},
	})
	s := made(t, "A1 =B1+C1+D1; B1 =C1+D1; C1 =D1; D1 1; D1 2")
	wantAll(t, s, "A1 8; B1 4; C1 2; D1 2")
}

// A circle is worked out as a whole, as chapter 7 counts it.
func TestH2Circles(t *testing.T) {
	wantSteps(t, []step{
		{"A1 =MIN(B1+1,C1)", 1},
		{"B1 =A1", 2 * 2},   // C1 is blank: both are 0 behind the first round
		{"C1 3", 2 * 4},     // outside of it
		{"C1 3", 0},         // the value is as it was
		{"D1 =B1*0", 1},     // hangs on it
		{"E1 =D1", 1},       // hangs on that
		{"C1 5", 2*6 + 1},   // D1 is as it was
		{"C1 x", 2*2 + 2},   // all are bad
		{"C1 y", 2 * 2},     // all are bad as they were
		{"F1 =F1+Z9", 2},    // another circle
		{"Z9 1", 20},        // is alone in being worked out
		{"Z9 =Z9+0", 2 + 2}, // a circle that hangs on another one
	})
}

// A cell that was in a circle has all of that circle worked out, in whatever parts it lies then.
func TestH2Cut(t *testing.T) {
	ring := []step{{"A1 =B1", 1}, {"B1 =C1", 1}, {"C1 =MIN(A1+1,5)", 3 * 12}, {"D1 =A1", 1}}
	wantSteps(t, append(slices.Clone(ring), step{"C1 5", 2}))         // all values are as they were: D1 stays
	wantSteps(t, append(slices.Clone(ring), step{"C1 6", 3}))         // and here they are not
	wantSteps(t, append(slices.Clone(ring), step{"C1 =B1", 2*1 + 2})) // B1 and C1 go round still; A1 and D1 are blank
	wantSteps(t, append(slices.Clone(ring), step{"C1 ", 3}))          // gone
	wantSteps(t, append(slices.Clone(ring), step{"A1 5", 2}))         // C1, B1; D1 stays
	wantSteps(t, append(slices.Clone(ring), step{"A1 =5", 3}))        // it is a formula, too
	wantSteps(t, append(slices.Clone(ring), step{"C1 =MIN(A1+1,5)", 3 * 12}))
	s := made(t, "A1 =B1; B1 =C1; C1 =MIN(A1+1,5); D1 =A1; C1 5")
	wantAll(t, s, "A1 5; B1 5; C1 5; D1 5")
}

// A cell that closes a circle has all of it worked out.
func TestH2Closed(t *testing.T) {
	wantSteps(t, []step{
		{"A1 =B1", 1}, {"B1 =C1", 1}, {"D1 =C1", 1}, {"C1 1", 3},
		{"C1 =MAX(A1,1)", 3 * 4}, // D1 is 1 as it was
		{"C1 =MAX(A1,2)", 3*4 + 1},
	})
	wantSteps(t, []step{{"A1 =Z9", 1}, {"Z9 =A1", 2}, {"Z9 ", 1}, {"A1 =A1", 1}, {"A1 =Z9", 1}})
}

// Work counts from when it was asked last, over all Sets since, and nothing else has a part in it.
func TestH2Asked(t *testing.T) {
	s := made(t, "A1 1; B1 =A1; C1 =B1; C1 =B1+1; D1 =MIN(D1+1,5)")
	s.All()
	s.Changed()
	s.List()
	if _, err := s.Shown(at("B1")); err != nil {
		t.Error(err)
	}
	wantWork(t, s, 3+6)
	wantWork(t, s, 0)
	set(t, s, "A1 2; A1 3")
	wantWork(t, s, 4)
	wantWork(t, s, 0)
}

func TestH3Changed(t *testing.T) {
	s := sheet.New()
	steps := []struct{ set, want string }{
		{"A1 1", "A1"},
		{"A1 1", ""},
		{"A1 =1", ""},
		{"B1 =Z9", ""}, // blank and Plain, as it was ahead of it
		{"C1 =A1*0", "C1"},
		{"A1 2", "A1"},
		{"A1 x", "A1 C1"},
		{"B1 ", ""},
		{"A1 ", "A1 C1"},
		{"A1 ", ""},
		{"A1 0", "A1"}, // 0 is not blank, and C1 is 0 as it was
		{`A1 ="0"`, "A1"},
		{"Z1 1; A2 1; A10 1; B9 1; A9 1", "Z1 A2 A9 B9 A10"}, // as they stand
		{"Z1 ; A9 ; B9 ; A2 ; A10 ", "Z1 A2 A9 B9 A10"},
		{"A1 7; A1 ", "A1"},
		{"A1 =1/0", "A1 C1"},
		{"A1 =1/0; B1 1; B1 ", ""}, // what comes and goes in between is no other one
		{"A1 3; A1 4; A1 #DIV!", ""},
		{"C1 ; C1 =A1*0", ""},
		{"C1 ; A1 ", "A1 C1"},
	}
	wantChanged(t, s, "")
	for _, st := range steps {
		set(t, s, st.set)
		if got := names(s.Changed()); got != st.want {
			t.Errorf("Changed behind %s at %s: %s; want %s", st.set, listed(s.List()), got, st.want)
		}
	}
	wantChanged(t, s, "")
	wantAll(t, s, "")
}

// State and Round count, even if the value is as it was.
func TestH3States(t *testing.T) {
	s := sheet.New()
	steps := []struct{ set, want string }{
		{"A1 =A1", "A1"},           // blank, Settled
		{"A1 =B1", "A1"},           // blank, Plain
		{"B1 =A1", "A1 B1"},        // both Settled
		{"B1 ", "A1 B1"},           // both Plain
		{"A1 =MIN(A1+1,3)", "A1"},  // 3, Settled, round 4
		{"A1 3", "A1"},             // Plain
		{"A1 =MAX(A1,3)", "A1"},    // Settled, round 2
		{"A1 =MIN(A1+1,3)", "A1"},  // round 4
		{"A1 =MIN(A1+1,2+1)", ""},  // all is as it was
		{"A1 =MIN(A1+1,19)", "A1"}, // 19, Settled, round 20
		{"A1 =NOT(A1)", "A1"},      // FALSE, Stopped, round 20
		{"A1 =A1+1", "A1"},         // 20, Stopped
		{"A1 =MIN(A1+1,20)", ""},   // likewise
		{"C1 =A1*0", "C1"},         // 0
		{"A1 20", "A1"},            // C1 is no other one
		{"A1 =IF(BLANKP(A1),20,A1)", "A1"},
		{"B1 =B1; B1 ", ""}, // there and gone
		{"A1 20; A1 =IF(BLANKP(A1),20,A1)", ""},
	}
	for _, st := range steps {
		set(t, s, st.set)
		if got := names(s.Changed()); got != st.want {
			t.Errorf("Changed behind %s at %s: %s; want %s", st.set, listed(s.List()), got, st.want)
		}
	}
}

// Changed is told since it was asked itself, whatever else was asked.
func TestH3Asked(t *testing.T) {
	s := made(t, "A1 1; B1 =A1; C1 ; D1 =D1")
	s.Work()
	s.All()
	s.List()
	wantChanged(t, s, "A1 B1 D1")
	wantChanged(t, s, "")
	wantWork(t, s, 0)
}

// A sheet as full as may be: one chain, then one circle.
func TestFull(t *testing.T) {
	s := fullSheet(t, "1")
	l := s.List()
	for i := range l[1:] {
		set(t, s, named(l[i].Cell)+" ="+named(l[i+1].Cell)+"+1")
	}
	s.Work()
	s.Changed()
	set(t, s, "R8 2")
	wantWork(t, s, api.MaxCells-1)
	if all := s.All(); told(all[0]) != "A1 201" || len(s.Changed()) != api.MaxCells {
		t.Errorf("a chain: %s", toldAll(all))
	}
	set(t, s, "R8 =A1")
	wantWork(t, s, api.MaxCells*api.MaxIter)
	if all := s.All(); told(all[0]) != "A1 20 stopped 20" || told(all[199]) != "R8 20 stopped 20" {
		t.Errorf("a circle: %s", toldAll(all))
	}
	set(t, s, "R8 2")
	wantWork(t, s, api.MaxCells-1)
	wantChanged(t, s, "")
}

// Answers are the caller's: what is written into them is seen by nobody.
func TestLists(t *testing.T) {
	s := made(t, "A1 1; B1 =A1; C1 =C1")
	spoil := func() {
		for _, l := range [][]api.Filled{s.List(), s.List()[:1]} {
			_ = append(l, api.Filled{Text: "spoilt"})
			l[0] = api.Filled{Text: "spoilt"}
		}
		for _, l := range [][]api.Shown{s.All(), s.All()[:1]} {
			_ = append(l, api.Shown{Round: 9})
			l[0] = api.Shown{Round: 9}
		}
	}
	kept, all := s.List(), s.All()
	changed := s.Changed()
	spoil()
	changed[0] = api.Cell{}
	if got := listed(s.List()); got != "A1 1; B1 =A1; C1 =C1" {
		t.Errorf("List: %s", got)
	}
	wantAll(t, s, "A1 1; B1 1; C1 - settled 1")
	wantChanged(t, s, "")
	// And an answer stays as it was given.
	set(t, s, "A1 ; B1 7; A2 1")
	if listed(kept) != "A1 1; B1 =A1; C1 =C1" || toldAll(all) != "A1 1; B1 1; C1 - settled 1" {
		t.Errorf("answers of then: %s, %s", listed(kept), toldAll(all))
	}
}
