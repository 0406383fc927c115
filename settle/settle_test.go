package settle_test

import (
	"fmt"
	"reflect"
	"slices"
	"strconv"
	"strings"
	"testing"

	"sccsettle/api"
	"sccsettle/plain"
	"sccsettle/settle"
)

// at reads a cell's name, without the program's own words for it.
func at(name string) api.Cell {
	row, err := strconv.Atoi(name[1:])
	if err != nil {
		panic(name)
	}
	return api.Cell{Col: int(name[0]-'A') + 1, Row: row}
}

func named(c api.Cell) string { return fmt.Sprintf("%c%d", 'A'+c.Col-1, c.Row) }

// sheet reads cells: "A1 =B1; B1 1".
func sheet(text string) (l []api.Filled) {
	if text == "" {
		return nil
	}
	for _, word := range strings.Split(text, "; ") {
		name, of, _ := strings.Cut(word, " ")
		l = append(l, api.Filled{Cell: at(name), Text: of})
	}
	return l
}

// seen writes a value so that its kind is seen: blank is -, a text is quoted.
func seen(v api.Value) string {
	switch v {
	case api.Value{}:
		return "-"
	case api.Value{Kind: api.Number, Num: v.Num}:
		return strconv.Itoa(v.Num)
	case api.Value{Kind: api.Text, Text: v.Text}:
		return strconv.Quote(v.Text)
	case api.Value{Kind: api.Truth, Num: 1}:
		return "TRUE"
	case api.Value{Kind: api.Truth}:
		return "FALSE"
	case api.Value{Kind: api.Bad, Num: v.Num}:
		return "bad" + strconv.Itoa(v.Num)
	}
	return fmt.Sprintf("no value: %#v", v)
}

// told: a cell, its value and, of a circle, how it ended: "A1 5 settled 6".
func told(s api.Shown) string {
	word := named(s.Cell) + " " + seen(s.Value)
	switch s.State {
	case api.Plain:
		if s.Round != 0 {
			word += " plain " + strconv.Itoa(s.Round)
		}
	case api.Settled:
		word += " settled " + strconv.Itoa(s.Round)
	case api.Stopped:
		word += " stopped " + strconv.Itoa(s.Round)
	default:
		word += " no state"
	}
	return word
}

func toldAll(l []api.Shown) string {
	var words []string
	for _, s := range l {
		words = append(words, told(s))
	}
	return strings.Join(words, "; ")
}

// row of a table: a sheet, what it comes to, and how much is worked out for that.
type row struct {
	sheet, want string
	count       int
}

func wantRow(t *testing.T, l []api.Filled, want string, count int) {
	t.Helper()
	all, err := settle.All(l)
	if err != nil || toldAll(all) != want {
		t.Errorf("All(%v): %s, %v; want %s", l, toldAll(all), err, want)
	}
	worked, err := settle.Count(l)
	if err != nil || worked != count {
		t.Errorf("Count(%v): %d, %v; want %d", l, worked, err, count)
	}
}

func wantRows(t *testing.T, rows []row) {
	t.Helper()
	for _, r := range rows {
		wantRow(t, sheet(r.sheet), r.want, r.count)
	}
}

func wantError(t *testing.T, l []api.Filled, want api.Errno) {
	t.Helper()
	all, err := settle.All(l)
	if len(all) != 0 || plain.Told(err) != want {
		t.Errorf("All(%.80q): %v, %v; want %v", fmt.Sprint(l), all, err, want)
	}
	count, err := settle.Count(l)
	if count != 0 || plain.Told(err) != want {
		t.Errorf("Count(%.80q): %d, %v; want %v", fmt.Sprint(l), count, err, want)
	}
}

// full is a sheet of so many cells, row by row, with one text.
func full(many int, text string) (l []api.Filled) {
	for i := range many {
		l = append(l, api.Filled{Cell: api.Cell{Col: i%api.MaxCol + 1, Row: i/api.MaxCol + 1}, Text: text})
	}
	return l
}

func TestExample(t *testing.T) {
	wantRows(t, []row{
		{"A1 =MIN(A1+1,5)", "A1 5 settled 6", 6},
		{"A1 =NOT(A1)", "A1 FALSE stopped 20", 20},
	})
}

// Texts without a formula are what Read makes of them, and are never worked out.
func TestS1Texts(t *testing.T) {
	wantRows(t, []row{
		{"", "", 0},
		{"A1 7", "A1 7", 0},
		{"A1 -7; B1 007; C1 TRUE; D1 FALSE; E1 x; F1 #DIV!; G1 #NONE!", `A1 -7; B1 "007"; C1 TRUE; D1 FALSE; E1 "x"; F1 bad1; G1 bad6`, 0},
		{"A1 true; B1 9223372036854775807; C1 9223372036854775808; D1  =1", `A1 "true"; B1 9223372036854775807; C1 "9223372036854775808"; D1 " =1"`, 0},
		{"Z1 1; A2 2; Z99 3", "Z1 1; A2 2; Z99 3", 0},
	})
}

func TestS1Formulas(t *testing.T) {
	wantRows(t, []row{
		{"A1 =1+2", "A1 3", 1},
		{"A1 =\"x\"&1", `A1 "x1"`, 1},
		{"A1 =1/0; B1 =A1+1; C1 =BADP(B1)", "A1 bad1; B1 bad1; C1 TRUE", 3},
		{"A1 5; B1 =A1*2; C1 =B1+A1", "A1 5; B1 10; C1 15", 2},
		{"A1 =NOSUCH(1)", "A1 bad4", 1},
		{"A1 =#REF!", "A1 bad3", 1},
		{"A1 =SUM(A2:C9); B2 4; C9 x; D9 100", `A1 4; B2 4; C9 "x"; D9 100`, 1},
	})
}

// What a formula hangs on is worked out ahead of it, wherever it stands.
func TestS1Order(t *testing.T) {
	wantRows(t, []row{
		{"A1 =B1+1; B1 =C1+1; C1 =D1+1; D1 =A2+1; A2 3", "A1 7; B1 6; C1 5; D1 4; A2 3", 4},
		{"A1 =SUM(A2:A4); A2 =A3*2; A3 =A4*2; A4 1", "A1 7; A2 4; A3 2; A4 1", 3},
		{"A1 =B1&C1; B1 =\"<\"&D1; C1 =D1&\">\"; D1 x", `A1 "<xx>"; B1 "<x"; C1 "x>"; D1 "x"`, 3},
	})
}

// What is none of the sheet's is blank; a formula that comes to that is worked out, and blank.
func TestS1Blank(t *testing.T) {
	wantRows(t, []row{
		{"A1 =B1; C1 =A1", "A1 -; C1 -", 2},
		{"A1 =B1+0; C1 =BLANKP(B1); D1 =BLANKP(A1)", "A1 0; C1 TRUE; D1 FALSE", 3},
		{"A1 =\"\"; B1 =BLANKP(A1)", `A1 ""; B1 FALSE`, 2},
	})
}

func TestSheetFaults(t *testing.T) {
	cases := []struct {
		l    []api.Filled
		want api.Errno
	}{
		{full(api.MaxCells+1, "1"), api.ErrFull},
		{[]api.Filled{{Cell: api.Cell{Col: 0, Row: 1}, Text: "1"}}, api.ErrRange},
		{[]api.Filled{{Cell: api.Cell{Col: 27, Row: 1}, Text: "1"}}, api.ErrRange},
		{[]api.Filled{{Cell: api.Cell{Col: 1, Row: 100}, Text: "1"}}, api.ErrRange},
		{sheet("A1 1; A1 1"), api.ErrOrder},
		{sheet("A2 1; B1 1"), api.ErrOrder},
		{sheet("A1 "), api.ErrShape},
		{sheet("A1 " + strings.Repeat("x", api.MaxText+1)), api.ErrFull},
		{sheet("A1 =1+"), api.ErrSyntax},
		{sheet("A1 =A1; B1 =("), api.ErrSyntax},
		{sheet("A1 ="), api.ErrSyntax},
		// The first cell with a fault is told, and of too many cells nothing else.
		{sheet("A1 =1+; A1 1"), api.ErrSyntax},
		{full(api.MaxCells+1, "=("), api.ErrFull},
	}
	for _, c := range cases {
		wantError(t, c.l, c.want)
	}
}

// A circle begins blank; that is not 0, and a round that makes it 0 changes it.
func TestS2Blank(t *testing.T) {
	wantRows(t, []row{
		{"A1 =A1", "A1 - settled 1", 1},
		{"A1 =B1; B1 =A1", "A1 - settled 1; B1 - settled 1", 2},
		{"A1 =A1+0", "A1 0 settled 2", 2},
		{"A1 =A1&\"\"", `A1 "" settled 2`, 2},
		{"A1 =IF(BLANKP(A1),7,A1)", "A1 7 settled 2", 2},
		{"A1 =BLANKP(A1)", "A1 FALSE settled 3", 3},
	})
}

// A value of another kind is another one, even if it is shown alike.
func TestS2Changed(t *testing.T) {
	wantRows(t, []row{
		{"A1 =IF(NUMP(A1),\"1\",1)", `A1 "1" stopped 20`, 20},
		{"A1 =IF(NUMP(A1),A1=1,1)", "A1 TRUE stopped 20", 20},
		{"A1 =IF(BADP(A1),A1,NONE())", "A1 bad6 settled 2", 2},
		{"A1 =IFBAD(IF(BLANKP(A1),#DIV!,A1),#NUM!)", "A1 bad5 settled 2", 2},
		{"A1 =IF(LEN(A1)<3,A1&\"x\",A1)", `A1 "xxx" settled 4`, 4},
		{"A1 =-A1", "A1 0 settled 2", 2},
	})
}

// The last round that may settle it is MaxIter.
func TestS2Last(t *testing.T) {
	wantRows(t, []row{
		{"A1 =MIN(A1+1,18)", "A1 18 settled 19", 19},
		{"A1 =MIN(A1+1,19)", "A1 19 settled 20", 20},
		{"A1 =MIN(A1+1,20)", "A1 20 stopped 20", 20},
		{"A1 =MIN(A1+1,21)", "A1 20 stopped 20", 20},
		{"A1 =A1+1", "A1 20 stopped 20", 20},
		{"A1 =MIN(B1+1,37); B1 =A1+1", "A1 37 settled 20; B1 38 settled 20", 40},
		{"A1 =MIN(B1+1,38); B1 =A1+1", "A1 38 stopped 20; B1 39 stopped 20", 40},
	})
}

// In a round each cell is worked out by what those ahead of it came to in the same round.
func TestS2AsTheyStand(t *testing.T) {
	wantRows(t, []row{
		{"A1 =MIN(B1+1,7); B1 =A1", "A1 7 settled 8; B1 7 settled 8", 16},
		{"A1 =B1; B1 =MIN(A1+1,7)", "A1 7 settled 9; B1 7 settled 9", 18},
		{"A1 =IF(BLANKP(B1),1,A1); B1 =A1*10+1", "A1 1 settled 2; B1 11 settled 2", 4},
		{"A1 =B1*10+1; B1 =IF(BLANKP(A1),1,2)", "A1 21 settled 3; B1 2 settled 3", 6},
		// B1 stands ahead of A2, though its column is behind.
		{"B1 =IF(BLANKP(A2),1,B1); A2 =B1*10+1", "B1 1 settled 2; A2 11 settled 2", 4},
		{"A1 =MIN(B1+1,7); B1 =A1+C1; C1 =IF(A1>3,B1,1)", "A1 7 stopped 20; B1 123 stopped 20; C1 123 stopped 20", 60},
		// One of them changes, and so none of them is settled, whichever it is.
		{"A1 =B1*0; B1 =A1+NOT(B1)", "A1 0 stopped 20; B1 0 stopped 20", 40},
		{"A1 =B1*0+NOT(A1); B1 =A1*0", "A1 0 stopped 20; B1 0 stopped 20", 40},
		{"A1 =B1*0; B1 =A1+NOT(B1)+C1; C1 =B1*0", "A1 0 stopped 20; B1 0 stopped 20; C1 0 stopped 20", 60},
	})
}

// A cell that hangs on itself is a circle, even if what it comes to never looks there.
func TestS2Alone(t *testing.T) {
	wantRows(t, []row{
		{"A1 =IF(TRUE,1,A1)", "A1 1 settled 2", 2},
		{"A2 =ROWS(A1:A3)", "A2 3 settled 2", 2},
		{"B2 =SUM(A1:C3); A3 4", "B2 80 stopped 20; A3 4", 20},
		{"A1 =COUNTA(A1:B1); B1 x", `A1 2 settled 3; B1 "x"`, 3},
	})
}

// Circles are worked out one by one, each by what those that it hangs on ended with.
func TestS2Many(t *testing.T) {
	wantRows(t, []row{
		{"A1 =MIN(A1+1,B1); B1 =MIN(B1+1,C1); C1 3", "A1 3 settled 4; B1 3 settled 4; C1 3", 8},
		{"A1 =MIN(A1+B1,9); B1 =NOT(B1)", "A1 0 settled 2; B1 FALSE stopped 20", 22},
		{"A1 =MIN(A1+1,2); B1 =MIN(B1+1,4)", "A1 2 settled 3; B1 4 settled 5", 8},
		{"A1 =B1; B1 =MIN(C1+1,6); C1 =B1; D1 =C1*10", "A1 6; B1 6 settled 7; C1 6 settled 7; D1 60", 16},
		{"A1 =NOT(A1); B1 =A1+C1; C1 3", "A1 FALSE stopped 20; B1 3; C1 3", 21},
		{"A1 =A1; B1 =A1; C1 =A1+B1", "A1 - settled 1; B1 -; C1 0", 3},
		{"A1 =MIN(A1+B2,C2); B2 =C2-1; C2 =D2*2; D2 4", "A1 8 settled 3; B2 7; C2 8; D2 4", 5},
	})
}

// A formula counts once if it is plain, else once a round, and no text without one ever counts.
func TestS3Counts(t *testing.T) {
	wantRows(t, []row{
		{"A1 x; B1 2", `A1 "x"; B1 2`, 0},
		{"A1 =IF(FALSE,B1,C1); B1 =1; C1 =2", "A1 2; B1 1; C1 2", 3},
		{"A1 =B1; B1 =C1; C1 =A1; D1 1; E1 =D1", "A1 - settled 1; B1 - settled 1; C1 - settled 1; D1 1; E1 1", 4},
		{"A1 =A1+B1; B1 1; C1 =C1+1", "A1 20 stopped 20; B1 1; C1 20 stopped 20", 40},
		{"A1 =NUMP(1)&NUMP(2); B1 =A1&A1&A1", `A1 "TRUETRUE"; B1 "TRUETRUETRUETRUETRUETRUE"`, 2},
	})
}

// A sheet as full as may be, all of it one chain, and all of it one circle.
func TestFull(t *testing.T) {
	l := full(api.MaxCells, "1")
	for i := range l[1:] {
		l[i].Text = "=" + named(l[i+1].Cell) + "+1"
	}
	all, err := settle.All(l)
	if err != nil || len(all) != api.MaxCells || told(all[0]) != "A1 200" || told(all[198]) != "Q8 2" {
		t.Errorf("a chain: %s, %v", toldAll(all), err)
	}
	if count, _ := settle.Count(l); count != api.MaxCells-1 {
		t.Errorf("Count of a chain: %d", count)
	}
	l[len(l)-1].Text = "=A1"
	all, err = settle.All(l)
	// Each round hands on by one cell what came to A1, since all but the last look ahead.
	if err != nil || told(all[0]) != "A1 20 stopped 20" || told(all[199]) != "R8 20 stopped 20" {
		t.Errorf("a circle: %s, %v", toldAll(all), err)
	}
	if count, _ := settle.Count(l); count != api.MaxCells*api.MaxIter {
		t.Errorf("Count of a circle: %d", count)
	}
}

// A list that is handed in stays as it is, what lies behind its end counts for nothing, and answers share nothing.
func TestLists(t *testing.T) {
	long := sheet("A1 =MIN(A1+1,3); B1 =A1; C1 x; D1 =(")
	kept := slices.Clone(long)
	first, err := settle.All(long[:3])
	if err != nil || toldAll(first) != `A1 3 settled 4; B1 3; C1 "x"` {
		t.Fatalf("All: %s, %v", toldAll(first), err)
	}
	if !reflect.DeepEqual(long, kept) {
		t.Errorf("the list is another one: %v", long)
	}
	first[0], first[1] = api.Shown{}, api.Shown{}
	wantRow(t, long[:3], `A1 3 settled 4; B1 3; C1 "x"`, 5)
}
