package find_test

import (
	"fmt"
	"math"
	"strconv"
	"strings"
	"testing"

	"sccsettle/api"
	"sccsettle/find"
	"sccsettle/graph"
	"sccsettle/plain"
)

// at reads a cell's name, without the program's own words for it.
func at(name string) api.Cell {
	row, err := strconv.Atoi(name[1:])
	if err != nil {
		panic(name)
	}
	return api.Cell{Col: int(name[0]-'A') + 1, Row: row}
}

func named(c api.Cell) string { return fmt.Sprintf("%c%d", 'A'+c.Col-1, c.Row) }

// sheet reads cells with their texts: "A1 =B1; B1 1".
func sheet(text string) (l []api.Filled) {
	if text == "" {
		return nil
	}
	for _, word := range strings.Split(text, "; ") {
		name, of, _ := strings.Cut(word, " ")
		l = append(l, api.Filled{Cell: at(name), Text: of})
	}
	return l
}

func listed(l []api.Filled) string {
	var words []string
	for _, f := range l {
		words = append(words, named(f.Cell)+" "+f.Text)
	}
	return strings.Join(words, "; ")
}

// names of cells, by blanks.
func names(cells []api.Cell) string {
	var words []string
	for _, c := range cells {
		words = append(words, named(c))
	}
	return strings.Join(words, " ")
}

// full has as many cells as may be, with one text.
func full(text string) (l []api.Filled) {
	for i := range api.MaxCells {
		l = append(l, api.Filled{Cell: api.Cell{Col: i%26 + 1, Row: i/26 + 1}, Text: text})
	}
	return l
}

func wantFound(t *testing.T, l []api.Filled, part string, whole bool, want string) {
	t.Helper()
	if got, err := find.Find(l, part, whole); names(got) != want || err != nil {
		t.Errorf("Find of %.40q (whole %v) in %.90s: %s, %v; want %s", part, whole, listed(l), names(got), err, want)
	}
}

func wantReplaced(t *testing.T, l []api.Filled, part, by string, whole bool, want string, count int) {
	t.Helper()
	got, many, err := find.Replace(l, part, by, whole)
	if listed(got) != want || many != count || err != nil {
		t.Errorf("Replace of %.40q by %.40q (whole %v) in %.90s: %.90s, %d, %v; want %.90s, %d", part, by, whole, listed(l), listed(got), many, err, want, count)
	}
	if err := graph.Check(got); err != nil {
		t.Errorf("Replace of %.40q by %.40q (whole %v) in %.90s is no sheet: %v", part, by, whole, listed(l), err)
	}
}

// refuseFind asks for an error, and for nothing beside it.
func refuseFind(t *testing.T, l []api.Filled, part string, whole bool, want api.Errno) {
	t.Helper()
	if got, err := find.Find(l, part, whole); len(got) != 0 || plain.Told(err) != want {
		t.Errorf("Find of %.40q (whole %v) in %.90s: %s, %v; want %v", part, whole, listed(l), names(got), err, want)
	}
}

func refuseReplace(t *testing.T, l []api.Filled, part, by string, whole bool, want api.Errno) {
	t.Helper()
	got, many, err := find.Replace(l, part, by, whole)
	if len(got) != 0 || many != 0 || plain.Told(err) != want {
		t.Errorf("Replace of %.40q by %.40q (whole %v) in %.90s: %.90s, %d, %v; want %v", part, by, whole, listed(l), listed(got), many, err, want)
	}
}

func TestD1Find(t *testing.T) {
	const text = `C1 pear; A2 =A1+1; B2 1; D2 11; A3 peach; B3 ="pear"; Z99 -1`
	for _, c := range []struct{ part, some, whole string }{
		{"1", "A2 B2 D2 Z99", "B2"},
		{"11", "D2", "D2"},
		{"-1", "Z99", "Z99"},
		{"111", "", ""},
		{"pea", "C1 A3 B3", ""},
		{"pear", "C1 B3", "C1"},
		{"ear", "C1 B3", ""},
		{"peach", "A3", "A3"},
		{"Pear", "", ""},
		{"=", "A2 B3", ""},
		{"=A1+1", "A2", "A2"},
		{"= A1+1", "", ""},
		{"A1", "A2", ""},
		{`"`, "B3", ""},
		{`="pear"`, "B3", `B3`},
		{" ", "", ""},
		{"?", "", ""},
		{"*", "", ""},
		{"~", "", ""},
		{".", "", ""},
	} {
		wantFound(t, sheet(text), c.part, false, c.some)
		wantFound(t, sheet(text), c.part, true, c.whole)
	}
	wantFound(t, nil, "x", false, "")
	wantFound(t, nil, "x", true, "")
}

// It is the text that has a part, not what the cell comes to.
func TestD1FindTexts(t *testing.T) {
	wantFound(t, sheet("A1 =1+1; B1 2; C1 =IF(TRUE,3,2)"), "2", false, "B1 C1")
	wantFound(t, sheet("A1 =1+1; B1 2; C1 =IF(TRUE,3,2)"), "2", true, "B1")
	wantFound(t, sheet("A1 =1/0; B1 #DIV!; C1 =#DIV!"), "#DIV!", false, "B1 C1")
	wantFound(t, sheet("A1 TRUE; B1 =1=1"), "TRUE", false, "A1")
	wantFound(t, sheet("A1 007; B1 7"), "7", true, "B1")
	wantFound(t, sheet("A1 =  B9; B1 =B9"), "=B", false, "B1")
}

// Texts are bytes.
func TestD1FindBytes(t *testing.T) {
	l := sheet("A1 \u00e9; B1 \xc3; C1 x\xa9; D1 \x00\n; E1 \xff\xfe")
	wantFound(t, l, "\xc3", false, "A1 B1")
	wantFound(t, l, "\xc3", true, "B1")
	wantFound(t, l, "\xa9", false, "A1 C1")
	wantFound(t, l, "\x00", false, "D1")
	wantFound(t, l, "\n", false, "D1")
	wantFound(t, l, "\ufffd", false, "")
	wantFound(t, l, "\xff", false, "E1")
}

func TestD1FindEdges(t *testing.T) {
	refuseFind(t, nil, "", false, api.ErrSyntax)
	refuseFind(t, nil, "", true, api.ErrSyntax)
	refuseFind(t, sheet("A1 1"), "", false, api.ErrSyntax)
	refuseFind(t, sheet("A1 1"), "", true, api.ErrSyntax)
	long := strings.Repeat("x", api.MaxText)
	for _, whole := range []bool{true, false} {
		wantFound(t, sheet("A1 "+long), long, whole, "A1")
		wantFound(t, sheet("A1 "+long[1:]), long, whole, "")
		// Chapter 15 bounds no part of Find: one that is longer than any text stands in none.
		wantFound(t, sheet("A1 "+long), long+"x", whole, "")
		wantFound(t, sheet("A1 "+long), strings.Repeat(long, 9999), whole, "")
		if got, err := find.Find(full("ab"), "ab", whole); len(got) != api.MaxCells || err != nil {
			t.Errorf("Find in a full sheet: %d cells, %v", len(got), err)
		}
	}
}

func TestD1Replace(t *testing.T) {
	for _, c := range []struct {
		sheet, part, by, want string
		count                 int
	}{
		{"", "x", "y", "", 0},
		{"A1 1", "x", "y", "A1 1", 0},
		{"A1 x", "x", "y", "A1 y", 1},
		{"A1 xaxbx", "x", "y", "A1 yayby", 3},
		{"A1 xx; B1 a; C1 ax; A2 xb", "x", "yy", "A1 yyyy; B1 a; C1 ayy; A2 yyb", 4},
		{"A1 x", "x", "x", "A1 x", 1},
		// What was put there is not looked at again.
		{"A1 xx", "x", "xx", "A1 xxxx", 2},
		{"A1 aabb", "ab", "b", "A1 abb", 1},
		{"A1 aabb", "ab", "", "A1 ab", 1},
		// From the left, none over another one.
		{"A1 aaa", "aa", "b", "A1 ba", 1},
		{"A1 aaaa", "aa", "b", "A1 bb", 2},
		{"A1 aaaaa", "aa", "b", "A1 bba", 2},
		{"A1 ababa", "aba", "-", "A1 -ba", 1},
		{"A1 abababa", "aba", "-", "A1 -b-", 2},
		// A cell without a text is gone, but not one that has some left.
		{"A1 x; B1 xx; C1 xxy; A2 x", "x", "", "C1 y", 6},
		{"A1 x", "x", "", "", 1},
		{"B1 11; C1 1", "1", "", "", 3},
		// Of formulas the text, as it stands.
		{"A1 = A1 + (A1)", "A1", "B2", "A1 = B2 + (B2)", 2},
		{"A1 =A1+A11", "A1", "B2", "A1 =B2+B21", 2},
		{`A1 ="A1"&A1`, "A1", "$C$3", `A1 ="$C$3"&$C$3`, 2},
		{"A1 =SUM(A1:B2)", "SUM", "NOSUCH", "A1 =NOSUCH(A1:B2)", 1},
		{"A1 =1+2", "+", "-", "A1 =1-2", 1},
		{"A1 =1+2", "+2", "", "A1 =1", 1},
		{"A1 =SUM(A1:B2)", ":", ",", "A1 =SUM(A1,B2)", 1},
		// What is one may become none, and the other way round.
		{"A1 =A1; B1 =\"x\"", "=", "", "A1 A1; B1 \"x\"", 2},
		{"A1 =A1", "=", " =(", "A1  =(A1", 1},
		{"A1 x1+2", "x", "=", "A1 =1+2", 1},
		{"A1 xxB1", "xx", "=", "A1 =B1", 1},
		{"A1 .=1", ".", "", "A1 =1", 1},
		// Only bytes that are alike.
		{"A1 aA", "a", "b", "A1 bA", 1},
		{"A1 a?*~.", "?", "b", "A1 ab*~.", 1},
		{"A1 a?*~.", "*", "$0", "A1 a?$0~.", 1},
		{"A1 ab.", ".", "x", "A1 abx", 1},
		{"A1 \u00e9\u00e8", "\xc3", "", "A1 \xa9\xa8", 2},
		{"A1 \xff\x00", "\xff", "\n", "A1 \n\x00", 1},
		{"A1 \xff\x00", "\ufffd", "\n", "A1 \xff\x00", 0},
	} {
		wantReplaced(t, sheet(c.sheet), c.part, c.by, false, c.want, c.count)
	}
}

func TestD1ReplaceWhole(t *testing.T) {
	for _, c := range []struct {
		sheet, part, by, want string
		count                 int
	}{
		{"", "x", "y", "", 0},
		{"A1 x; B1 xx; C1 ax; D1 xa; A2 x", "x", "y", "A1 y; B1 xx; C1 ax; D1 xa; A2 y", 2},
		{"A1 x; B1 xx", "xx", "", "A1 x", 1},
		{"A1 x; B1 x", "x", "", "", 2},
		{"A1 x; B1 x", "x", "x", "A1 x; B1 x", 2},
		{"A1 X; B1 x ", "x", "y", "A1 X; B1 x ", 0},
		{"A1 =A1; B1 =A1+1; C1 = A1", "=A1", "=B9", "A1 =B9; B1 =A1+1; C1 = A1", 1},
		{"A1 =A1; B1 =A1+1", "=A1", "7", "A1 7; B1 =A1+1", 1},
		{"A1 7; B1 77", "7", "=B1", "A1 =B1; B1 77", 1},
		{"A1 =1+1; B1 2", "2", "3", "A1 =1+1; B1 3", 1},
		// A part that would be refused in a cell of which it is not the whole.
		{"A1 =1+1; B1 1", "1", "", "A1 =1+1", 1},
		{"A1 =1+1; B1 1", "+", "", "A1 =1+1; B1 1", 0},
	} {
		wantReplaced(t, sheet(c.sheet), c.part, c.by, true, c.want, c.count)
	}
}

// TestD1ReplaceLong: parts, what they become, and what comes of them have at most 200 bytes.
func TestD1ReplaceLong(t *testing.T) {
	long := strings.Repeat("x", api.MaxText)
	for _, whole := range []bool{true, false} {
		wantReplaced(t, sheet("A1 "+long), long, "y", whole, "A1 y", 1)
		wantReplaced(t, sheet("A1 y"), "y", long, whole, "A1 "+long, 1)
		wantReplaced(t, sheet("A1 "+long), long, long, whole, "A1 "+long, 1)
		wantReplaced(t, sheet("A1 "+long), long, "", whole, "", 1)
		for _, text := range []string{"", "A1 y", "A1 z", "A1 " + long, "A1 =1"} {
			l := sheet(text)
			refuseReplace(t, l, long+"x", "y", whole, api.ErrFull)
			refuseReplace(t, l, "y", long+"x", whole, api.ErrFull)
			refuseReplace(t, l, long+"x", long+"x", whole, api.ErrFull)
			// Too long is told ahead of an empty part.
			refuseReplace(t, l, "", long+"x", whole, api.ErrFull)
			refuseReplace(t, l, "", strings.Repeat(long, 9999), whole, api.ErrFull)
			refuseReplace(t, l, "", long, whole, api.ErrSyntax)
			refuseReplace(t, l, "", "", whole, api.ErrSyntax)
			refuseReplace(t, l, "", "y", whole, api.ErrSyntax)
		}
	}
}

// TestD1TooLong: a text would be too long.
func TestD1TooLong(t *testing.T) {
	x := func(many int) string { return strings.Repeat("x", many) }
	wantReplaced(t, sheet("A1 y"+x(198)), "y", "zz", false, "A1 zz"+x(198), 1)
	refuseReplace(t, sheet("A1 y"+x(199)), "y", "zz", false, api.ErrFull)
	wantReplaced(t, sheet("A1 y"+x(199)), "y", "zz", true, "A1 y"+x(199), 0)
	wantReplaced(t, sheet("A1 "+x(100)), "x", "yy", false, "A1 "+strings.Repeat("y", 200), 100)
	refuseReplace(t, sheet("A1 "+x(101)), "x", "yy", false, api.ErrFull)
	refuseReplace(t, sheet("A1 "+x(200)), "x", x(200), false, api.ErrFull)
	refuseReplace(t, full(x(200)), "x", x(200), false, api.ErrFull)
	// Longer on the way, not at last.
	wantReplaced(t, sheet("A1 "+x(200)), "xxxx", "yyyy", false, "A1 "+strings.Repeat("y", 200), 50)
	wantReplaced(t, sheet("A1 =1+\""+x(195)+"\""), "1", "2", false, "A1 =2+\""+x(195)+"\"", 1)
	// A formula that is too long is no text of a cell, whatever else it is.
	refuseReplace(t, sheet("A1 =1+\""+x(195)+"\""), "1", "22", false, api.ErrFull)
	refuseReplace(t, sheet("A1 =1+\""+x(195)+"\""), "1", "(((", false, api.ErrFull)
	refuseReplace(t, sheet("A1 y"+x(199)), "y", "=)", false, api.ErrFull)
}

// TestD1NoFormula: a formula would be none; also one that was no formula ahead.
func TestD1NoFormula(t *testing.T) {
	for _, c := range []struct{ text, part, by string }{
		{"=1", "1", ""}, {"=1+2", "2", ""}, {"=1+2", "+", " "}, {"=A1", "1", ""}, {"=A1", "1", "100"}, {"=A1", "A", "AA"}, {"=A1", "A", "a"},
		{"=SUM(A1:A2)", "SUM", ""}, {"=SUM(A1:A2)", ")", ""}, {"=SUM(A1:A2)", "(", ""}, {"=SUM(A1)", "SUM", "ABCDEFGHIJK"}, {"=SUM(A1,A2)", "A1", "A1:A9:"},
		{`="x"`, `"`, ""}, {`="x"`, "x", `"`}, {`="x"`, `x"`, ""}, {"=1", "=", "=="}, {"=1", "=1", "="}, {"=9223372036854775807", "7", "8"}, {"=1", "1", "01"},
		{"x1+", "x", "="}, {"x", "x", "="}, {"x=", "x", ""}, {"x=1)", "x", ""}, {"xx1", "x", "="}, {"1", "1", "=(1"}, {"#REF!", "#", "="},
	} {
		refuseReplace(t, []api.Filled{{Cell: at("B7"), Text: c.text}}, c.part, c.by, false, api.ErrSyntax)
	}
	refuseReplace(t, sheet("A1 x"), "x", "=", true, api.ErrSyntax)
	refuseReplace(t, sheet("A1 =A1"), "=A1", "=A100", true, api.ErrSyntax)
	wantReplaced(t, sheet(`A1 ="x"`), "x", `""`, false, `A1 =""""`, 1)
}

// TestD1Levels: what has too many levels is no formula of a cell.
func TestD1Levels(t *testing.T) {
	deep := strings.Repeat("-", api.MaxDepth)
	wantReplaced(t, sheet("A1 =1"), "1", deep+"1", false, "A1 ="+deep+"1", 1)
	refuseReplace(t, sheet("A1 =1"), "1", deep+"-1", false, api.ErrSyntax)
	refuseReplace(t, sheet("A1 ="+deep+"1"), "1", "(1)", false, api.ErrSyntax)
	wantReplaced(t, sheet("A1 ="+deep+"1"), "-", "(", true, "A1 ="+deep+"1", 0)
}

// TestD1FirstFault: of several cells the first that has a fault is told, and nothing is replaced then.
func TestD1FirstFault(t *testing.T) {
	long := "y" + strings.Repeat("x", api.MaxText-1)
	refuseReplace(t, sheet("A1 y; B1 "+long+"; C1 y=1; A2 y"), "y", "zz", false, api.ErrFull)
	refuseReplace(t, sheet(`A1 yb; B1 ="y"; C1 `+long), "y", `"z`, false, api.ErrSyntax)
	refuseReplace(t, sheet(`A1 yb; B1 `+long+`; C1 ="y"`), "y", `"z`, false, api.ErrFull)
	refuseReplace(t, sheet(`A1 y; B1 =1+1; C1 1`), "1", "", false, api.ErrSyntax)
	refuseReplace(t, sheet("A1 1; B1 =A1; C1 1"), "1", "", false, api.ErrSyntax)
	refuseReplace(t, append(full("1")[:199], api.Filled{Cell: at("Z99"), Text: "=1"}), "1", "", false, api.ErrSyntax)
}

func TestD1FullSheet(t *testing.T) {
	for _, whole := range []bool{true, false} {
		wantReplaced(t, full("ab"), "ab", "=A1", whole, listed(full("=A1")), api.MaxCells)
		wantReplaced(t, full("ab"), "ab", "", whole, "", api.MaxCells)
	}
	wantReplaced(t, full(strings.Repeat("x", 200)), "x", "y", false, listed(full(strings.Repeat("y", 200))), 40000)
}

// What is wrong with a sheet is told ahead of what is wrong with a part.
func TestD1Faults(t *testing.T) {
	long := strings.Repeat("x", api.MaxText+1)
	for _, c := range []struct {
		list []api.Filled
		want api.Errno
	}{
		{append(full("="), api.Filled{Cell: at("Z99"), Text: "1"}), api.ErrFull},
		{[]api.Filled{{Text: "1"}}, api.ErrRange},
		{[]api.Filled{{Cell: api.Cell{Col: 27, Row: 1}, Text: ""}}, api.ErrRange},
		{[]api.Filled{{Cell: api.Cell{Col: 1, Row: math.MaxInt}, Text: "="}}, api.ErrRange},
		{sheet("B1 1; A1 2"), api.ErrOrder},
		{sheet("A1 1; A1 2"), api.ErrOrder},
		{sheet("A1 1; A99 "), api.ErrShape},
		{sheet("A1 " + long), api.ErrFull},
		{sheet("A1 =" + long), api.ErrFull},
		{sheet("Z99 ="), api.ErrSyntax},
		{sheet("A1 1; B1 =A100; C1 "), api.ErrSyntax},
		{sheet("A1 =" + strings.Repeat("-", api.MaxDepth+1) + "A1"), api.ErrSyntax},
	} {
		for _, part := range []string{"", "x", "=", "1", long} {
			for _, whole := range []bool{true, false} {
				refuseFind(t, c.list, part, whole, c.want)
				for _, by := range []string{"", "y", "=", long} {
					refuseReplace(t, c.list, part, by, whole, c.want)
				}
			}
		}
	}
}

// Nothing that is handed in is written into, or handed out, and what lies behind a list's length is not looked at.
func TestFresh(t *testing.T) {
	const text, rest = "A1 =A2; B1 2; A2 = B1 ; C3 4", "; Z99 2; A1 ; A1 ="
	for _, part := range []string{"2", "B1", "4", "x", "=A2"} {
		for _, by := range []string{"", "7", part} {
			for _, whole := range []bool{true, false} {
				behind := sheet(text + rest)
				l := behind[:4]
				cells, err := find.Find(l, part, whole)
				found := names(cells)
				if err != nil || strings.Contains(found, "Z99") {
					t.Errorf("Find of %q: %s, %v", part, found, err)
				}
				first, many, err := find.Replace(l, part, by, whole)
				want := fmt.Sprint(listed(first), many, err)
				for i := range first[:cap(first)] {
					first[:cap(first)][i] = api.Filled{Text: "spoilt"}
				}
				for i := range cells[:cap(cells)] {
					cells[:cap(cells)][i] = api.Cell{}
				}
				if got := listed(behind); got != text+rest {
					t.Errorf("Replace of %q by %q: what was handed in is %s", part, by, got)
				}
				wantFound(t, l, part, whole, found)
				again, many, err := find.Replace(l, part, by, whole)
				if got := fmt.Sprint(listed(again), many, err); got != want {
					t.Errorf("Replace of %q by %q answers otherwise the second time: %s; %s", part, by, got, want)
				}
			}
		}
	}
}
