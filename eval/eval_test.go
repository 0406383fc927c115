package eval_test

import (
	"fmt"
	"math"
	"reflect"
	"strings"
	"testing"

	"sccsettle/addr"
	"sccsettle/api"
	"sccsettle/eval"
	"sccsettle/formula"
)

var (
	blank = api.Value{}
	yes   = api.Value{Kind: api.Truth, Num: 1}
	no    = api.Value{Kind: api.Truth}
)

func number(n int) api.Value { return api.Value{Kind: api.Number, Num: n} }

func text(s string) api.Value { return api.Value{Kind: api.Text, Text: s} }

func bad(n int) api.Value { return api.Value{Kind: api.Bad, Num: n} }

// Short names of what is bad, for the tables.
var (
	badDiv   = bad(api.BadDiv)
	badValue = bad(api.BadValue)
	badRef   = bad(api.BadRef)
	badName  = bad(api.BadName)
	badNum   = bad(api.BadNum)
	badNone  = bad(api.BadNone)
)

func shown(name string, v api.Value) api.Shown {
	c, err := addr.Cell(name)
	if err != nil {
		panic(name)
	}
	return api.Shown{Cell: c, Value: v}
}

func parse(t *testing.T, text string) api.Node {
	t.Helper()
	n, at, err := formula.Parse(text)
	if err != nil {
		t.Fatalf("%s: %v at %d", text, err, at)
	}
	return n
}

// row of a table: a formula, and what it comes to.
type row struct {
	text string
	want api.Value
}

func wantRows(t *testing.T, l []api.Shown, rows []row) {
	t.Helper()
	for _, r := range rows {
		got, err := eval.Eval(parse(t, r.text), l)
		if got != r.want || err != nil {
			t.Errorf("%s = %v, %v, want %v", r.text, got, err, r.want)
		}
	}
}

// wantError: an error, and beside it nothing.
func wantError(t *testing.T, n api.Node, l []api.Shown, want error) {
	t.Helper()
	if got, err := eval.Eval(n, l); err != want || got != blank {
		t.Errorf("Eval of %v, %v = %v, %v, want %v", n, l, got, err, want)
	}
}

// kinds: a column of values of all kinds, A1 to A7, and none in A8.
func kinds() []api.Shown {
	return []api.Shown{
		shown("A1", number(3)),
		shown("A2", text("x")),
		shown("A3", yes),
		shown("A4", number(-10)),
		shown("A5", text("12")),
		shown("A6", no),
		shown("A7", text("")),
		shown("C1", badNum),
		shown("C2", badRef),
	}
}

func TestExample(t *testing.T) {
	wantRows(t, []api.Shown{shown("A1", number(3)), shown("A2", text("x")), shown("A3", yes)}, []row{
		{`=SUM(A1:A3,TRUE)`, number(4)},
		{`=COUNT(A1:A3,"7")`, number(2)},
		{`=IF(A3,A2&A1,1/0)`, text("x3")},
	})
}

func TestE1Nodes(t *testing.T) {
	wantRows(t, kinds(), []row{
		{`=12`, number(12)},
		{`=0`, number(0)},
		{`=9223372036854775807`, number(math.MaxInt)},
		{`="a""b"`, text(`a"b`)},
		{`=""`, text("")},
		{`="12"`, text("12")},
		{`=TRUE`, yes},
		{`=FALSE`, no},
		{`=#DIV!`, badDiv},
		{`=#VALUE!`, badValue},
		{`=#REF!`, badRef},
		{`=#NAME!`, badName},
		{`=#NUM!`, badNum},
		{`=#NONE!`, badNone},
		{`=A1`, number(3)},
		{`=$A$2`, text("x")},
		{`=A$3`, yes},
		{`=$A6`, no},
		{`=A7`, text("")},
		{`=A8`, blank},
		{`=Z99`, blank},
		{`=C1`, badNum},
		{`=-A1`, number(-3)},
		{`=--A3`, number(1)},
		{`=-A2`, badValue},
		{`=-C2`, badRef},
		{`=A1-A4*2`, number(23)},
		{`=A4-A1`, number(-13)},
		{`=A4/A1`, number(-3)},
		{`=A1&A2`, text("3x")},
		{`=A2&A1`, text("x3")},
		{`=A1<A4`, no},
		{`=A1<=A4`, no},
		{`=A1>A4`, yes},
		{`=A1>=3`, yes},
		{`=A8=0`, yes},
		{`=A8<>""`, no},
		{`=A1/A8`, badDiv},
		{`=C1+C2`, badNum},
		{`=C2+C1`, badRef},
		{`=A2+C1`, badValue},
		{`=9223372036854775807+1`, badNum},
	})
}

// TestE1Last: of several values of one cell the last one counts, a blank one too.
func TestE1Last(t *testing.T) {
	l := []api.Shown{
		shown("A1", number(1)), shown("B2", number(5)), shown("A1", text("y")),
		shown("C3", badDiv), shown("C3", blank), shown("D4", blank), shown("D4", yes),
	}
	wantRows(t, l, []row{
		{`=A1`, text("y")},
		{`=B2`, number(5)},
		{`=C3`, blank},
		{`=SUM(A1:D4)`, number(5)},
		{`=D4`, yes},
	})
}

// TestE1State: how a value came to be does not count.
func TestE1State(t *testing.T) {
	l := []api.Shown{{Cell: api.Cell{Col: 1, Row: 1}, Value: number(7), State: 99, Round: -5}}
	wantRows(t, l, []row{{`=A1`, number(7)}})
}

func TestE1Errors(t *testing.T) {
	one := parse(t, "=1")
	for _, c := range []api.Cell{{}, {Col: 0, Row: 1}, {Col: 1, Row: 0}, {Col: 27, Row: 1}, {Col: 1, Row: 100}, {Col: -1, Row: 5}, {Col: math.MaxInt, Row: math.MinInt}} {
		wantError(t, one, []api.Shown{{Cell: c}}, api.ErrRange)
		wantError(t, one, append(kinds(), api.Shown{Cell: c, Value: number(1)}), api.ErrRange)
	}
	for _, v := range []api.Value{
		{Kind: -1}, {Kind: 5}, {Num: 1}, {Text: "x"}, {Kind: api.Number, Text: "x"}, {Kind: api.Text, Num: 1},
		text(strings.Repeat("y", 201)), {Kind: api.Truth, Num: 2}, {Kind: api.Truth, Num: -1}, {Kind: api.Bad}, {Kind: api.Bad, Num: 7},
	} {
		wantError(t, one, []api.Shown{shown("A1", v)}, api.ErrRange)
		// Even where a later one of the cell counts.
		wantError(t, one, []api.Shown{shown("A1", v), shown("A1", number(1))}, api.ErrRange)
	}
	wantRows(t, []api.Shown{shown("A1", text(strings.Repeat("y", 200))), shown("Z99", yes), shown("Z1", number(math.MinInt))}, []row{{"=1", number(1)}, {"=Z1", number(math.MinInt)}})
}

// TestE1CheckFirst: what Check says comes ahead of what is wrong with the values.
func TestE1CheckFirst(t *testing.T) {
	wrong := []api.Shown{{}}
	ref := api.Ref{Cell: api.Cell{Col: 1, Row: 1}}
	round := []api.Node{{Kind: api.NodeNeg}}
	round[0].Kids = round
	for _, c := range []struct {
		n    api.Node
		want error
	}{
		{api.Node{}, api.ErrSyntax},
		{api.Node{Kind: 10}, api.ErrSyntax},
		{api.Node{Kind: api.NodeNum, Num: -1}, api.ErrSyntax},
		{api.Node{Kind: api.NodeTwo, Num: api.Add}, api.ErrSyntax},
		{api.Node{Kind: api.NodeTwo, Num: 12, Kids: make([]api.Node, 2)}, api.ErrSyntax},
		{api.Node{Kind: api.NodeNeg}, api.ErrSyntax},
		{api.Node{Kind: api.NodeRef}, api.ErrSyntax},
		{api.Node{Kind: api.NodeCall, Text: "sum"}, api.ErrSyntax},
		{api.Node{Kind: api.NodeBox, Ref: ref, To: ref}, api.ErrSyntax},
		{api.Node{Kind: api.NodeCall, Text: "SUM", Kids: make([]api.Node, 200)}, api.ErrFull},
		{round[0], api.ErrFull},
		{deep(31), api.ErrFull},
	} {
		wantError(t, c.n, nil, c.want)
		wantError(t, c.n, wrong, c.want)
	}
	wantError(t, deep(30), wrong, api.ErrRange)
	if v, err := eval.Eval(deep(30), nil); v != number(1) || err != nil {
		t.Errorf("30 levels: %v, %v", v, err)
	}
}

// deep has so many levels.
func deep(levels int) api.Node {
	n := api.Node{Kind: api.NodeNum, Num: 1}
	for range levels {
		n = api.Node{Kind: api.NodeCall, Text: "ABS", Kids: []api.Node{n}}
	}
	return n
}

// TestE1Names: what has no name below, whatever its arguments, is BadName.
func TestE1Names(t *testing.T) {
	wantRows(t, kinds(), []row{
		{`=FLY()`, badName},
		{`=FLY(1/0)`, badName},
		{`=FLY(A1:B2,C1)`, badName},
		{`=SUMM(1)`, badName},
		{`=TRUE()`, badName},
		{`=XOR(TRUE)`, badName},
		{`=ABS(FLY(1))`, badName},
		{`=IFBAD(FLY(1),2)`, number(2)},
		{`=IF(TRUE,1,FLY(1))`, number(1)},
	})
}

// endless stands for any number of arguments.
const endless = 1000

// counts: of each name the least and the greatest number of arguments, and arguments of which all are lawful.
var counts = []struct {
	name        string
	least, most int
	args        string
}{
	{"SUM", 1, endless, "1"}, {"MIN", 1, endless, "1"}, {"MAX", 1, endless, "1"}, {"AVG", 1, endless, "1"}, {"COUNT", 1, endless, "1"},
	{"COUNTA", 1, endless, "1"}, {"AND", 1, endless, "1"}, {"OR", 1, endless, "1"}, {"CAT", 1, endless, "1"},
	{"IF", 2, 3, "1"}, {"IFBAD", 2, 2, "1"}, {"BADP", 1, 1, "1"}, {"BLANKP", 1, 1, "1"}, {"NUMP", 1, 1, "1"},
	{"CHOOSE", 2, endless, "1"}, {"NOT", 1, 1, "1"}, {"ABS", 1, 1, "1"}, {"SIGN", 1, 1, "1"}, {"MOD", 2, 2, "1"},
	{"POWER", 2, 2, "1"},
	{"LEN", 1, 1, "1"}, {"LEFT", 2, 2, "1"}, {"RIGHT", 2, 2, "1"}, {"MID", 3, 3, "1"}, {"UPPER", 1, 1, "1"},
	{"LOWER", 1, 1, "1"}, {"FIND", 2, 2, "1"}, {"REPT", 2, 2, "1"}, {"EXACT", 2, 2, "1"}, {"VALUE", 1, 1, "1"},
	{"ROWS", 1, 1, "A1:A1"}, {"COLS", 1, 1, "A1:A1"}, {"INDEX", 3, 3, "A1:A1,1,1"}, {"MATCH", 2, 2, "1,A1:A1"},
	{"LOOKUP", 3, 3, "1,A1:A1,1"}, {"COUNTIF", 2, 2, "A1:A1,1"}, {"SUMIF", 3, 3, "A1:A1,1,A1:A1"},
}

// TestE1Counts: another number of arguments than is told is BadValue, even where one of them is bad otherwise, or would not be worked out.
func TestE1Counts(t *testing.T) {
	l := []api.Shown{shown("A1", number(1))}
	for _, c := range counts {
		given := strings.Split(c.args, ",")
		for many := range 30 {
			call := callOf(c.name, many, given...)
			got, err := eval.Eval(parse(t, call), l)
			lawful := c.least <= many && many <= c.most
			if (got != badValue) != lawful || err != nil {
				t.Errorf("%s = %v, %v", call, got, err)
			}
			if !lawful {
				wantRows(t, l, []row{{callOf(c.name, many, "1/0"), badValue}})
			}
		}
	}
	wantRows(t, l, []row{
		{`=NONE(1)`, badValue},
		{`=NONE(1/0)`, badValue},
		{callOf("SUM", 97, "1"), number(97)},
		{callOf("COUNTA", 95, "1"), number(95)},
		{callOf("CHOOSE", 95, "1"), number(1)},
	})
}

// callOf is a call with so many arguments, those that are given over and over.
func callOf(name string, many int, given ...string) string {
	args := make([]string, many)
	for i := range args {
		args[i] = given[i%len(given)]
	}
	return "=" + name + "(" + strings.Join(args, ",") + ")"
}

// TestE1Bad: a value of an argument that is bad is the answer, of several the first; all are worked out ahead of what is asked of them.
func TestE1Bad(t *testing.T) {
	for _, call := range []string{"NOT(%s)", "ABS(%s)", "SIGN(%s)", "LEN(%s)", "UPPER(%s)", "LOWER(%s)", "VALUE(%s)", "MATCH(%s,A1:A2)", "COUNTIF(A1:A2,%s)", "SUMIF(A1:A2,%s,B1:B2)", "SUMIF(A1:A2,%s,B1:B3)"} {
		wantRows(t, nil, []row{
			{"=" + fmt.Sprintf(call, "#NUM!"), badNum},
			{"=" + fmt.Sprintf(call, "1/0"), badDiv},
			{"=" + fmt.Sprintf(call, "C1:C2"), badValue},
		})
	}
	for _, call := range []string{"MOD(%s,%s)", "POWER(%s,%s)", "LEFT(%s,%s)", "RIGHT(%s,%s)", "MID(%s,%s,1)", "MID(%s,1,%s)", "MID(7,%s,%s)", "FIND(%s,%s)", "REPT(%s,%s)", "EXACT(%s,%s)", "INDEX(A1:A2,%s,%s)", "LOOKUP(%s,A1:A2,%s)"} {
		wantRows(t, nil, []row{
			{"=" + fmt.Sprintf(call, "#NUM!", "#DIV!"), badNum},
			{"=" + fmt.Sprintf(call, "#DIV!", "#NUM!"), badDiv},
			{"=" + fmt.Sprintf(call, "#REF!", "1"), badRef},
			{"=" + fmt.Sprintf(call, "1", "#NONE!"), badNone},
			{"=" + fmt.Sprintf(call, `"x"`, "#NONE!"), badNone},
			{"=" + fmt.Sprintf(call, "-1", "#NONE!"), badNone},
			{"=" + fmt.Sprintf(call, "C1:C2", "#NONE!"), badValue},
			{"=" + fmt.Sprintf(call, "#NONE!", "C1:C2"), badNone},
			{"=" + fmt.Sprintf(call, "1", "C1:C2"), badValue},
		})
	}
}

// TestE1BoxAsValue: a box where a value is asked for is a value that is bad.
func TestE1BoxAsValue(t *testing.T) {
	wantRows(t, kinds(), []row{
		{`=IF(A1:A1,1,2)`, badValue},
		{`=IF(TRUE,A1:A1,2)`, badValue},
		{`=IF(FALSE,A1:A1,2)`, number(2)},
		{`=IF(FALSE,1,A1:A1)`, badValue},
		{`=IFBAD(A1:A1,2)`, number(2)},
		{`=IFBAD(1/0,A1:A1)`, badValue},
		{`=BADP(A1:A1)`, yes},
		{`=BLANKP(B1:B1)`, no},
		{`=NUMP(A1:A1)`, no},
		{`=CHOOSE(A1:A1,2)`, badValue},
		{`=CHOOSE(1,A1:A1)`, badValue},
		{`=CHOOSE(2,A1:A1,5)`, number(5)},
	})
}

// TestUntouched: neither the node nor the list is written into, nor what lies behind their lengths.
func TestUntouched(t *testing.T) {
	const given = `=SUM(A1:A9,IF(A3,CAT(A1,A2:A3),1))&LEFT("abc",2)`
	n := parse(t, given)
	list := append(kinds(), shown("A9", number(4)))
	before := append([]api.Shown{}, list...)
	if v, err := eval.Eval(n, list[:len(list)-1]); v != badValue || err != nil {
		t.Errorf("got %v, %v", v, err)
	}
	if !reflect.DeepEqual(list, before) || !reflect.DeepEqual(n, parse(t, given)) {
		t.Error("an argument was written into")
	}
	kids := []api.Node{{Kind: api.NodeNum, Num: 1}, {Kind: -1}}
	if v, err := eval.Eval(api.Node{Kind: api.NodeCall, Text: "SUM", Kids: kids[:1]}, list[:0]); v != number(1) || err != nil {
		t.Errorf("behind the length: %v, %v", v, err)
	}
}
