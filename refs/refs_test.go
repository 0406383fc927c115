package refs_test

import (
	"fmt"
	"math"
	"reflect"
	"strings"
	"testing"

	"sccsettle/api"
	"sccsettle/formula"
	"sccsettle/plain"
	"sccsettle/refs"
)

// all is a box that every cell lies in.
var all = api.Box{From: api.Cell{Col: 1, Row: 1}, To: api.Cell{Col: 26, Row: 99}}

func parse(t *testing.T, text string) api.Node {
	t.Helper()
	n, at, err := formula.Parse(text)
	if err != nil {
		t.Fatalf("Parse(%q): %d, %v", text, at, err)
	}
	return n
}

// wantText asks for a node, by its text.
func wantText(t *testing.T, what string, n api.Node, err error, want string) {
	t.Helper()
	if err != nil {
		t.Errorf("%s: error %v, want %s", what, err, want)
		return
	}
	if got, err := formula.Print(n); got != want || err != nil {
		t.Errorf("%s = %s, %v, want %s", what, got, err, want)
	}
}

// wantErr asks for an error, and for no node beside it.
func wantErr(t *testing.T, what string, n api.Node, err error, want api.Errno) {
	t.Helper()
	if plain.Told(err) != want {
		t.Errorf("%s: error %v, want %v", what, err, want)
	}
	if !reflect.DeepEqual(n, api.Node{}) {
		t.Errorf("%s: node %v beside an error", what, n)
	}
}

func cell(col, row int) api.Cell { return api.Cell{Col: col, Row: row} }

func ref(c api.Cell) api.Node { return api.Node{Kind: api.NodeRef, Ref: api.Ref{Cell: c}} }

func sum(kids ...api.Node) api.Node {
	return api.Node{Kind: api.NodeCall, Text: "SUM", Kids: kids}
}

// wrongNodes, and what Check says of them.
func wrongNodes() map[string]struct {
	node api.Node
	want api.Errno
} {
	circle := api.Node{Kind: api.NodeNeg, Kids: make([]api.Node, 1)}
	circle.Kids[0] = circle
	many := sum()
	for range 200 {
		many.Kids = append(many.Kids, ref(cell(1, 1)))
	}
	long := sum(many.Kids[:70]...)
	deep := ref(cell(1, 1))
	for range 31 {
		deep = api.Node{Kind: api.NodeNeg, Kids: []api.Node{deep}}
	}
	corners := api.Node{Kind: api.NodeBox, Ref: api.Ref{Cell: cell(1, 1)}, To: api.Ref{Cell: cell(2, 2)}}
	half := corners
	half.To = api.Ref{}
	more := ref(cell(1, 1))
	more.Num = 1
	return map[string]struct {
		node api.Node
		want api.Errno
	}{
		"none":            {api.Node{}, api.ErrSyntax},
		"kind":            {api.Node{Kind: 10}, api.ErrSyntax},
		"box alone":       {corners, api.ErrSyntax},
		"half a box":      {sum(half), api.ErrSyntax},
		"more in it":      {more, api.ErrSyntax},
		"column 0":        {ref(cell(0, 1)), api.ErrSyntax},
		"column 27":       {sum(ref(cell(1, 1)), ref(cell(27, 1))), api.ErrSyntax},
		"row 100":         {ref(cell(1, 100)), api.ErrSyntax},
		"far row":         {ref(cell(1, math.MaxInt)), api.ErrSyntax},
		"two without two": {api.Node{Kind: api.NodeTwo, Num: api.Add, Kids: []api.Node{ref(cell(1, 1))}}, api.ErrSyntax},
		"circle":          {circle, api.ErrFull},
		"201 nodes":       {many, api.ErrFull},
		"long":            {long, api.ErrFull},
		"deep":            {deep, api.ErrFull},
	}
}

// TestR1Check: what Check says comes first, ahead of numbers and boxes that may not be.
func TestR1Check(t *testing.T) {
	for name, c := range wrongNodes() {
		if got := plain.Told(formula.Check(c.node)); got != c.want {
			t.Errorf("%s: Check says %v, want %v", name, got, c.want)
		}
		cells, err := refs.Of(c.node)
		if plain.Told(err) != c.want || len(cells) != 0 {
			t.Errorf("%s: Of = %v, %v, want %v", name, cells, err, c.want)
		}
		n, err := refs.Moved(c.node, 1, 1)
		wantErr(t, name+": Moved", n, err, c.want)
		for _, row := range []bool{true, false} {
			for _, at := range []int{1, 0, 100, math.MinInt} {
				n, err = refs.Inserted(c.node, row, at, 1)
				wantErr(t, name+": Inserted", n, err, c.want)
				n, err = refs.Deleted(c.node, row, at, -1)
				wantErr(t, name+": Deleted", n, err, c.want)
			}
		}
		for _, from := range []api.Box{all, {}, {From: all.To, To: all.From}} {
			n, err = refs.Carried(c.node, from, 1, 1)
			wantErr(t, name+": Carried", n, err, c.want)
		}
	}
}

func TestR1Of(t *testing.T) {
	for text, want := range map[string]string{
		`=1`:                                ``,
		`=NONE()`:                           ``,
		`="A1"&TRUE&#REF!`:                  ``,
		`=B3`:                               `B3`,
		`=$B$3`:                             `B3`,
		`=A2+B1`:                            `B1 A2`,
		`=B1+A2`:                            `B1 A2`,
		`=C1-A1-B1`:                         `A1 B1 C1`,
		`=A10+A9`:                           `A9 A10`,
		`=A1+$A1+A$1+$A$1+A1`:               `A1`,
		`=SUM(A1:A1)`:                       `A1`,
		`=SUM(A1:B2)`:                       `A1 B1 A2 B2`,
		`=SUM(B2:A1)`:                       `A1 B1 A2 B2`,
		`=SUM(A2:B1)`:                       `A1 B1 A2 B2`,
		`=SUM($B1:A$2)`:                     `A1 B1 A2 B2`,
		`=SUM(A1:A3,A2:B2)`:                 `A1 A2 B2 A3`,
		`=SUM(A1:A3,A2)+A2`:                 `A1 A2 A3`,
		`=SUM(Z98:Z99)`:                     `Z98 Z99`,
		`=SUM(Z99:Y99,A1)`:                  `A1 Y99 Z99`,
		`=-(-A1)`:                           `A1`,
		`=IF(A1>B$1,SUM(C1:C2),-MAX(D4,2))`: `A1 B1 C1 C2 D4`,
	} {
		cells, err := refs.Of(parse(t, text))
		var names []string
		for _, c := range cells {
			names = append(names, fmt.Sprintf("%c%d", 'A'+c.Col-1, c.Row))
		}
		if got := strings.Join(names, " "); got != want || err != nil {
			t.Errorf("Of(%q) = %s, %v, want %s", text, got, err, want)
		}
	}
}

// TestR1Boxes: boxes between any two corners, some of them over one another.
func TestR1Boxes(t *testing.T) {
	corners := []api.Cell{cell(1, 1), cell(26, 1), cell(1, 99), cell(26, 99), cell(5, 7), cell(6, 7), cell(5, 8), cell(12, 90)}
	between := func(a, x, b int) bool { return a <= x && x <= b || b <= x && x <= a }
	for _, a := range corners {
		for _, b := range corners {
			for _, c := range corners {
				var want []api.Cell
				for row := 1; row <= 99; row++ {
					for col := 1; col <= 26; col++ {
						in := between(a.Col, col, b.Col) && between(a.Row, row, b.Row)
						if in || between(b.Col, col, c.Col) && between(b.Row, row, c.Row) {
							want = append(want, cell(col, row))
						}
					}
				}
				n := sum(
					api.Node{Kind: api.NodeBox, Ref: api.Ref{Cell: a}, To: api.Ref{Cell: b, FixCol: true}},
					api.Node{Kind: api.NodeBox, Ref: api.Ref{Cell: c, FixRow: true}, To: api.Ref{Cell: b}},
				)
				if got, err := refs.Of(n); !reflect.DeepEqual(got, want) || err != nil {
					t.Fatalf("Of boxes %v %v %v: %d cells, %v, want %d", a, b, c, len(got), err, len(want))
				}
			}
		}
	}
}

func TestR2Moved(t *testing.T) {
	for _, c := range []struct {
		text       string
		cols, rows int
		want       string
	}{
		{`=SUM(A1:A5)+B$2`, 1, 1, `=SUM(B2:B6)+C$2`},
		{`=SUM(A1:A5)+B$2`, 0, 0, `=SUM(A1:A5)+B$2`},
		{`=C4+$C4+C$4+$C$4`, 1, 2, `=D6+$C6+D$4+$C$4`},
		{`=C4+$C4+C$4+$C$4`, -2, -3, `=A1+$C1+A$4+$C$4`},
		{`=C4+$C4+C$4+$C$4`, -3, 0, `=#REF!+$C4+#REF!+$C$4`},
		{`=C4+$C4+C$4+$C$4`, 0, -4, `=#REF!+#REF!+C$4+$C$4`},
		{`=C4+$C4+C$4+$C$4`, 23, 95, `=Z99+$C99+Z$4+$C$4`},
		{`=C4+$C4+C$4+$C$4`, 24, 0, `=#REF!+$C4+#REF!+$C$4`},
		{`=C4+$C4+C$4+$C$4`, 0, 96, `=#REF!+#REF!+C$4+$C$4`},
		{`=C4+$C4+C$4+$C$4`, math.MaxInt, math.MinInt, `=#REF!+#REF!+#REF!+$C$4`},
		{`=C4+$C4+C$4+$C$4`, math.MinInt, math.MaxInt, `=#REF!+#REF!+#REF!+$C$4`},
		{`=SUM(B2:C3)`, -1, -1, `=SUM(A1:B2)`},
		{`=SUM(B2:C3)`, -2, 0, `=SUM(#REF!)`},
		{`=SUM(C3:B2)`, -2, 0, `=SUM(#REF!)`},
		{`=SUM(B2:Z3)`, 1, 0, `=SUM(#REF!)`},
		{`=SUM(B98:C99)`, 0, 1, `=SUM(#REF!)`},
		{`=SUM($B98:C$99)`, 0, 1, `=SUM($B99:C$99)`},
		{`=SUM(A$1:$C3)`, 4, 2, `=SUM(E$1:$C5)`},
		{`=SUM($A$1:C3)`, 1, 1, `=SUM($A$1:D4)`},
		{`=SUM($A$1:C3)`, 0, 97, `=SUM(#REF!)`},
		{`=SUM(A1:B2,C3)-MAX(A1)`, 0, 97, `=SUM(A98:B99,#REF!)-MAX(A98)`},
		{`="A1"&1&TRUE&#DIV!&NONE()`, 5, 5, `="A1"&1&TRUE&#DIV!&NONE()`},
		{`=-(A1*-B2)`, 1, 0, `=-(B1*-C2)`},
	} {
		n, err := refs.Moved(parse(t, c.text), c.cols, c.rows)
		wantText(t, fmt.Sprintf("Moved of %s by %d, %d", c.text, c.cols, c.rows), n, err, c.want)
	}
}

// lineCase: rows (else columns) at, so many.
type lineCase struct {
	text     string
	row      bool
	at, many int
	want     string
}

func TestR3Inserted(t *testing.T) {
	for _, c := range []lineCase{
		{`=SUM(A1:A5)+B$2`, true, 2, 1, `=SUM(A1:A6)+B$3`},
		{`=SUM(A1:A5)+B$2`, true, 1, 2, `=SUM(A3:A7)+B$4`},
		{`=SUM(A1:A5)+B$2`, true, 6, 2, `=SUM(A1:A5)+B$2`},
		{`=SUM(A1:A5)+B$2`, true, 2, 0, `=SUM(A1:A5)+B$2`},
		{`=SUM(A1:A5)+B$2`, false, 2, 3, `=SUM(A1:A5)+E$2`},
		{`=SUM(A1:A5)+$B2`, false, 1, 3, `=SUM(D1:D5)+$E2`},
		{`=C4+$C4+C$4+$C$4`, true, 4, 2, `=C6+$C6+C$6+$C$6`},
		{`=C4+$C4+C$4+$C$4`, true, 5, 2, `=C4+$C4+C$4+$C$4`},
		{`=C4+$C4+C$4+$C$4`, false, 3, 2, `=E4+$E4+E$4+$E$4`},
		{`=C4+$C4+C$4+$C$4`, false, 4, 2, `=C4+$C4+C$4+$C$4`},
		{`=C4+$C4+C$4+$C$4`, true, 1, 95, `=C99+$C99+C$99+$C$99`},
		{`=C4+$C4+C$4+$C$4`, true, 1, 96, `=#REF!+#REF!+#REF!+#REF!`},
		{`=C4+$C4+C$4+$C$4`, false, 1, 23, `=Z4+$Z4+Z$4+$Z$4`},
		{`=C4+$C4+C$4+$C$4`, false, 1, 24, `=#REF!+#REF!+#REF!+#REF!`},
		{`=A1+Z99`, true, 99, 99, `=A1+#REF!`},
		{`=A1+Z99`, false, 26, 26, `=A1+#REF!`},
		{`=A1+Z99`, true, 99, 0, `=A1+Z99`},
		{`=SUM(A5:A1)`, true, 3, 2, `=SUM(A7:A1)`},
		{`=SUM(D1:B1)`, false, 3, 2, `=SUM(F1:B1)`},
		{`=SUM(A1:A98)`, true, 2, 1, `=SUM(A1:A99)`},
		{`=SUM(A1:A98)`, true, 2, 2, `=SUM(#REF!)`},
		{`=SUM(A98:A1)`, true, 2, 2, `=SUM(#REF!)`},
		{`=SUM(A1:$A$99)`, true, 99, 1, `=SUM(#REF!)`},
		{`=SUM(A1:Z1)`, false, 26, 1, `=SUM(#REF!)`},
		{`=SUM(A1:Z1)`, true, 1, 98, `=SUM(A99:Z99)`},
		{`="A9"&9&TRUE&#NUM!&NONE()`, true, 1, 9, `="A9"&9&TRUE&#NUM!&NONE()`},
		{`=-(A1*-B2)`, true, 2, 1, `=-(A1*-B3)`},
	} {
		n, err := refs.Inserted(parse(t, c.text), c.row, c.at, c.many)
		wantText(t, fmt.Sprint("Inserted of ", c.text, c.row, c.at, c.many), n, err, c.want)
	}
}

func TestR3Deleted(t *testing.T) {
	for _, c := range []lineCase{
		{`=SUM(A1:A5)+B$2`, true, 1, 2, `=SUM(A1:A3)+#REF!`},
		{`=SUM(A1:A5)+B$2`, true, 1, 0, `=SUM(A1:A5)+B$2`},
		{`=SUM(A1:A5)+B$2`, true, 1, 1, `=SUM(A1:A4)+B$1`},
		{`=SUM(A1:A5)+B$2`, true, 3, 97, `=SUM(A1:A2)+B$2`},
		{`=SUM(A1:A5)+B$2`, true, 1, 99, `=SUM(#REF!)+#REF!`},
		{`=SUM(A1:A5)+B$2`, true, 6, 99, `=SUM(A1:A5)+B$2`},
		{`=SUM(A1:A5)+B$2`, false, 1, 1, `=SUM(#REF!)+A$2`},
		{`=SUM(A1:A5)+B$2`, false, 2, 25, `=SUM(A1:A5)+#REF!`},
		{`=C4+$C4+C$4+$C$4`, true, 2, 2, `=C2+$C2+C$2+$C$2`},
		{`=C4+$C4+C$4+$C$4`, true, 2, 3, `=#REF!+#REF!+#REF!+#REF!`},
		{`=C4+$C4+C$4+$C$4`, true, 4, 1, `=#REF!+#REF!+#REF!+#REF!`},
		{`=C4+$C4+C$4+$C$4`, true, 5, 1, `=C4+$C4+C$4+$C$4`},
		{`=C4+$C4+C$4+$C$4`, true, 1, 3, `=C1+$C1+C$1+$C$1`},
		{`=C4+$C4+C$4+$C$4`, false, 1, 2, `=A4+$A4+A$4+$A$4`},
		{`=C4+$C4+C$4+$C$4`, false, 3, 1, `=#REF!+#REF!+#REF!+#REF!`},
		{`=Z99`, true, 99, 99, `=#REF!`},
		{`=Z99`, true, 98, 1, `=Z98`},
		{`=Z99`, false, 25, 1, `=Y99`},
		{`=SUM(B2:D6)`, true, 2, 4, `=SUM(B2:D2)`},
		{`=SUM(B2:D6)`, true, 3, 4, `=SUM(B2:D2)`},
		{`=SUM(B2:D6)`, true, 2, 5, `=SUM(#REF!)`},
		{`=SUM(B2:D6)`, true, 1, 6, `=SUM(#REF!)`},
		{`=SUM(B2:D6)`, true, 1, 2, `=SUM(B1:D4)`},
		{`=SUM(B2:D6)`, true, 6, 9, `=SUM(B2:D5)`},
		{`=SUM(B2:D6)`, true, 3, 2, `=SUM(B2:D4)`},
		{`=SUM(B6:D2)`, true, 1, 2, `=SUM(B4:D1)`},
		{`=SUM(B6:D2)`, true, 5, 9, `=SUM(B4:D2)`},
		{`=SUM($B$6:D$2)`, true, 5, 9, `=SUM($B$4:D$2)`},
		{`=SUM($B$6:D$2)`, true, 2, 1, `=SUM($B$5:D$2)`},
		{`=SUM(B2:D6)`, false, 2, 1, `=SUM(B2:C6)`},
		{`=SUM(D2:B6)`, false, 2, 1, `=SUM(C2:B6)`},
		{`=SUM(D2:B6)`, false, 3, 24, `=SUM(B2:B6)`},
		{`=SUM(D2:B6)`, false, 1, 3, `=SUM(A2:A6)`},
		{`=SUM(D2:B6)`, false, 2, 3, `=SUM(#REF!)`},
		{`=SUM(B2:B6)`, false, 2, 1, `=SUM(#REF!)`},
		{`=SUM(B2:D2)`, true, 2, 1, `=SUM(#REF!)`},
		{`=SUM(B2:D2)`, true, 1, 1, `=SUM(B1:D1)`},
		{`="A9"&9&TRUE&#NUM!&NONE()`, true, 1, 9, `="A9"&9&TRUE&#NUM!&NONE()`},
		{`=-(A1*-B2)`, true, 1, 1, `=-(#REF!*-B1)`},
	} {
		n, err := refs.Deleted(parse(t, c.text), c.row, c.at, c.many)
		wantText(t, fmt.Sprint("Deleted of ", c.text, c.row, c.at, c.many), n, err, c.want)
	}
}

// TestR3Range: the bounds are those of rows, or of columns.
func TestR3Range(t *testing.T) {
	n := parse(t, "=A1+1")
	for _, row := range []bool{true, false} {
		most := 26
		if row {
			most = 99
		}
		for _, at := range []int{math.MinInt, -1, 0, 1, 2, 26, 27, 98, 99, 100, math.MaxInt} {
			for _, many := range []int{math.MinInt, -1, 0, 1, 26, 27, 99, 100, math.MaxInt} {
				what := fmt.Sprint(row, at, many)
				in, errIn := refs.Inserted(n, row, at, many)
				out, errOut := refs.Deleted(n, row, at, many)
				if err := refs.CheckLines(row, at, many); plain.Told(err) != plain.Told(errIn) {
					t.Errorf("%s: CheckLines %v, Inserted %v", what, err, errIn)
				}
				if at < 1 || at > most || many < 0 || many > most {
					wantErr(t, "Inserted "+what, in, errIn, api.ErrRange)
					wantErr(t, "Deleted "+what, out, errOut, api.ErrRange)
				} else if errIn != nil || errOut != nil {
					t.Errorf("%s: Inserted %v, Deleted %v", what, errIn, errOut)
				}
			}
		}
	}
}

func TestR4Carried(t *testing.T) {
	for _, c := range []struct {
		text, from string
		cols, rows int
		want       string
	}{
		{`=B2+$B2+B$2+$B$2`, `B2:B2`, 1, 2, `=C4+$C4+C$4+$C$4`},
		{`=B2+$B2+B$2+$B$2`, `B2:B2`, 0, 0, `=B2+$B2+B$2+$B$2`},
		{`=B2+$B2+B$2+$B$2`, `B2:B2`, -2, 0, `=#REF!+#REF!+#REF!+#REF!`},
		{`=B2+$B2+B$2+$B$2`, `B2:B2`, 0, -2, `=#REF!+#REF!+#REF!+#REF!`},
		{`=B2+$B2+B$2+$B$2`, `B2:B2`, 24, 97, `=Z99+$Z99+Z$99+$Z$99`},
		{`=B2+$B2+B$2+$B$2`, `B2:B2`, 25, 97, `=#REF!+#REF!+#REF!+#REF!`},
		{`=B2+$B2+B$2+$B$2`, `B2:B2`, 24, 98, `=#REF!+#REF!+#REF!+#REF!`},
		{`=$B$2+C3`, `A1:B2`, math.MaxInt, math.MinInt, `=#REF!+C3`},
		{`=$B$2+C3`, `A1:B2`, math.MinInt, math.MaxInt, `=#REF!+C3`},
		{`=A1+A3+D1+D3+B2+C2`, `B2:C2`, 1, 1, `=A1+A3+D1+D3+C3+D3`},
		{`=B1+B3+A2+D2`, `B2:C2`, 5, 5, `=B1+B3+A2+D2`},
		{`=SUM(A1:B2)`, `A1:B2`, 1, 1, `=SUM(B2:C3)`},
		{`=SUM($B$2:A$1)`, `A1:B2`, 1, 1, `=SUM($C$3:B$2)`},
		{`=SUM(A2:B1)`, `A1:B2`, 1, 1, `=SUM(B3:C2)`},
		{`=SUM(A1:B3)`, `A1:B2`, 1, 1, `=SUM(A1:B3)`},
		{`=SUM(B3:A1)`, `A1:B2`, 1, 1, `=SUM(B3:A1)`},
		{`=SUM(A1:C2)`, `A1:B2`, 1, 1, `=SUM(A1:C2)`},
		{`=SUM(A1:D4)`, `B2:C3`, 1, 1, `=SUM(A1:D4)`},
		{`=SUM(A1:B3)`, `A1:B2`, -9, -9, `=SUM(A1:B3)`},
		{`=SUM(A1:B2)`, `A1:B2`, -1, 0, `=SUM(#REF!)`},
		{`=SUM(B1:B2)`, `A1:B2`, -1, 0, `=SUM(A1:A2)`},
		{`=SUM(B2:A1)`, `A1:B2`, 0, -1, `=SUM(#REF!)`},
		{`=SUM(Y98:Z99)`, `A1:Z99`, -24, -97, `=SUM(A1:B2)`},
		{`=SUM(Y98:Z99)`, `Y98:Z99`, 1, 0, `=SUM(#REF!)`},
		{`=SUM(A1:A3,B1)+MAX(-B2,"B2")`, `B1:B2`, 2, 0, `=SUM(A1:A3,D1)+MAX(-D2,"B2")`},
		{`=1&TRUE&#DIV!&NONE()`, `A1:Z99`, 99, 99, `=1&TRUE&#DIV!&NONE()`},
	} {
		from := parse(t, "=SUM("+c.from+")").Kids[0]
		n, err := refs.Carried(parse(t, c.text), api.Box{From: from.Ref.Cell, To: from.To.Cell}, c.cols, c.rows)
		wantText(t, fmt.Sprintf("Carried of %s from %s by %d, %d", c.text, c.from, c.cols, c.rows), n, err, c.want)
	}
}

func TestR4Range(t *testing.T) {
	for _, from := range []api.Box{
		{}, {From: cell(1, 1)}, {To: cell(1, 1)},
		{From: cell(0, 1), To: cell(1, 1)}, {From: cell(1, 0), To: cell(1, 1)}, {From: cell(-5, 1), To: cell(1, 1)},
		{From: cell(1, 1), To: cell(27, 1)}, {From: cell(1, 1), To: cell(1, 100)},
		{From: cell(2, 1), To: cell(1, 2)}, {From: cell(1, 2), To: cell(2, 1)}, {From: cell(2, 2), To: cell(1, 1)},
		{From: cell(math.MinInt, 1), To: cell(math.MaxInt, 1)}, {From: cell(1, math.MinInt), To: cell(1, math.MaxInt)},
	} {
		for _, text := range []string{"=1", "=A1", "=SUM(A1:B2)"} {
			for _, by := range []int{0, 1, math.MaxInt} {
				n, err := refs.Carried(parse(t, text), from, by, by)
				wantErr(t, fmt.Sprint("Carried from ", from), n, err, api.ErrRange)
			}
		}
	}
	for _, from := range []api.Box{all, {From: cell(1, 1), To: cell(1, 1)}, {From: cell(26, 99), To: cell(26, 99)}, {From: cell(1, 5), To: cell(26, 5)}} {
		if _, err := refs.Carried(parse(t, "=A1"), from, 0, 0); err != nil {
			t.Errorf("Carried from %v: %v", from, err)
		}
	}
}
