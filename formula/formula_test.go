package formula_test

import (
	"math"
	"reflect"
	"slices"
	"strconv"
	"strings"
	"testing"

	"sccsettle/api"
	"sccsettle/formula"
	"sccsettle/plain"
)

// signs of the operators, as the chapter has them, in the order of their numbers.
var signs = []string{"", "=", "<>", "<", "<=", ">", ">=", "&", "+", "-", "*", "/"}

// badShown: in the order of their numbers, too.
var badShown = []string{"", "#DIV!", "#VALUE!", "#REF!", "#NAME!", "#NUM!", "#NONE!"}

func number(n int) api.Node   { return api.Node{Kind: api.NodeNum, Num: n} }
func quote(s string) api.Node { return api.Node{Kind: api.NodeText, Text: s} }
func truth(n int) api.Node    { return api.Node{Kind: api.NodeTruth, Num: n} }
func bad(n int) api.Node      { return api.Node{Kind: api.NodeBad, Num: n} }
func neg(n api.Node) api.Node { return api.Node{Kind: api.NodeNeg, Kids: []api.Node{n}} }

func cell(col, row int) api.Ref { return api.Ref{Cell: api.Cell{Col: col, Row: row}} }
func ref(r api.Ref) api.Node    { return api.Node{Kind: api.NodeRef, Ref: r} }
func box(a, b api.Ref) api.Node { return api.Node{Kind: api.NodeBox, Ref: a, To: b} }

func two(op int, a, b api.Node) api.Node {
	return api.Node{Kind: api.NodeTwo, Num: op, Kids: []api.Node{a, b}}
}

func call(name string, kids ...api.Node) api.Node {
	return api.Node{Kind: api.NodeCall, Text: name, Kids: kids}
}

// refTree is written without the program's own words for refs.
func refTree(r api.Ref) string {
	s := string(rune('A' + r.Cell.Col - 1))
	if r.FixCol {
		s = "$" + s
	}
	if r.FixRow {
		s += "$"
	}
	return s + strconv.Itoa(r.Cell.Row)
}

// tree writes a node with all its brackets, operators ahead.
func tree(n api.Node) string {
	kids := make([]string, len(n.Kids))
	for i, kid := range n.Kids {
		kids[i] = tree(kid)
	}
	switch n.Kind {
	case api.NodeNum:
		return strconv.Itoa(n.Num)
	case api.NodeText:
		return strconv.Quote(n.Text)
	case api.NodeTruth:
		return []string{"FALSE", "TRUE"}[n.Num]
	case api.NodeBad:
		return badShown[n.Num]
	case api.NodeRef:
		return refTree(n.Ref)
	case api.NodeBox:
		return refTree(n.Ref) + ":" + refTree(n.To)
	case api.NodeNeg:
		return "(neg " + kids[0] + ")"
	case api.NodeTwo:
		return "(" + signs[n.Num] + " " + kids[0] + " " + kids[1] + ")"
	case api.NodeCall:
		return n.Text + "[" + strings.Join(kids, " ") + "]"
	}
	return "none"
}

func wantParsed(t *testing.T, text, want string) {
	t.Helper()
	n, at, err := formula.Parse(text)
	if got := tree(n); got != want || at != 0 || err != nil {
		t.Errorf("Parse(%q) = %s, %d, %v, want %s", text, got, at, err, want)
	}
}

// wantFault asks for the place and the error, and for no node beside them.
func wantFault(t *testing.T, text string, wantAt int, want api.Errno) {
	t.Helper()
	n, at, err := formula.Parse(text)
	if at != wantAt || plain.Told(err) != want {
		t.Errorf("Parse(%q): %d, %v, want %d, %v", text, at, err, wantAt, want)
	}
	if !reflect.DeepEqual(n, api.Node{}) {
		t.Errorf("Parse(%q): node %v beside an error", text, n)
	}
}

// same holds nodes against each other: an empty list and nil are one.
func same(a, b api.Node) bool {
	if !slices.EqualFunc(a.Kids, b.Kids, same) {
		return false
	}
	a.Kids, b.Kids = nil, nil
	return reflect.DeepEqual(a, b)
}

func TestF1Operands(t *testing.T) {
	for text, want := range map[string]string{
		"=0":                   "0",
		"=7":                   "7",
		"=10":                  "10",
		"=9223372036854775807": "9223372036854775807",
		`=""`:                  `""`,
		`="x"`:                 `"x"`,
		`="a b"`:               `"a b"`,
		`=" "`:                 `" "`,
		`=""""`:                `"\""`,
		`="a""b"`:              `"a\"b"`,
		`="""a"""`:             `"\"a\""`,
		`=""""""`:              `"\"\""`,
		`="=1+("`:              `"=1+("`,
		"=\"\x00\xff\n\"":      `"\x00\xff\n"`,
		"=TRUE":                "TRUE",
		"=FALSE":               "FALSE",
		"=#DIV!":               "#DIV!",
		"=#VALUE!":             "#VALUE!",
		"=#REF!":               "#REF!",
		"=#NAME!":              "#NAME!",
		"=#NUM!":               "#NUM!",
		"=#NONE!":              "#NONE!",
		"=A1":                  "A1",
		"=$Z99":                "$Z99",
		"=Z$99":                "Z$99",
		"=$C$4":                "$C$4",
		"=(1)":                 "1",
		"=((A1))":              "A1",
	} {
		wantParsed(t, text, want)
	}
	for num := api.BadDiv; num <= api.BadNone; num++ {
		if n, _, err := formula.Parse("=" + badShown[num]); err != nil || !same(n, bad(num)) {
			t.Errorf("Parse of %s: %v, %v", badShown[num], n, err)
		}
	}
}

func TestF1Calls(t *testing.T) {
	for text, want := range map[string]string{
		"=NONE()":                 "NONE[]",
		"=NONE( )":                "NONE[]",
		"=OR(1)":                  "OR[1]",
		"=ABCDEFGHIJ(1,2)":        "ABCDEFGHIJ[1 2]",
		"=IF(A1,B1,C1)":           "IF[A1 B1 C1]",
		"=SUM(A1:B2)":             "SUM[A1:B2]",
		"=SUM(B2:A1)":             "SUM[B2:A1]",
		"=SUM($A1:B$2,1,C3:$C$3)": "SUM[$A1:B$2 1 C3:$C$3]",
		"=SUM( A1:B2 , 1 )":       "SUM[A1:B2 1]",
		"=SUM(A1,B2)":             "SUM[A1 B2]",
		"=SUM(MAX(A1:B2),(A1))":   "SUM[MAX[A1:B2] A1]",
		"=SUM(1)+MAX(2)":          "(+ SUM[1] MAX[2])",
		"=-NOT(TRUE)":             "(neg NOT[TRUE])",
		"=SUM(1<2)":               "SUM[(< 1 2)]",
		"=TRUE(1)":                "TRUE[1]",
		"=FALSE()":                "FALSE[]",
		"=FLY(1)":                 "FLY[1]",
	} {
		wantParsed(t, text, want)
	}
}

func TestF1Operators(t *testing.T) {
	for text, want := range map[string]string{
		"=1=2":              "(= 1 2)",
		"=1<>2":             "(<> 1 2)",
		"=1<2":              "(< 1 2)",
		"=1<=2":             "(<= 1 2)",
		"=1>2":              "(> 1 2)",
		"=1>=2":             "(>= 1 2)",
		"=1-2-3":            "(- (- 1 2) 3)",
		"=1-(2-3)":          "(- 1 (- 2 3))",
		"=8/4/2":            "(/ (/ 8 4) 2)",
		"=8/4*2":            "(* (/ 8 4) 2)",
		"=1+2-3+4":          "(+ (- (+ 1 2) 3) 4)",
		"=1&2&3":            "(& (& 1 2) 3)",
		"=1<2=3>4":          "(> (= (< 1 2) 3) 4)",
		"=1=2&3+4*5":        "(= 1 (& 2 (+ 3 (* 4 5))))",
		"=1*2+3&4=5":        "(= (& (+ (* 1 2) 3) 4) 5)",
		"=1+2&3":            "(& (+ 1 2) 3)",
		"=1&2+3":            "(& 1 (+ 2 3))",
		"=1&2<3&4":          "(< (& 1 2) (& 3 4))",
		"=(1=2)*3":          "(* (= 1 2) 3)",
		"=-1":               "(neg 1)",
		"=--1":              "(neg (neg 1))",
		"=-1*2":             "(* (neg 1) 2)",
		"=-1-2":             "(- (neg 1) 2)",
		"=1--2":             "(- 1 (neg 2))",
		"=1---2":            "(- 1 (neg (neg 2)))",
		"=2*-3":             "(* 2 (neg 3))",
		"=1<-2":             "(< 1 (neg 2))",
		"=1<=-2":            "(<= 1 (neg 2))",
		"=-(1+2)":           "(neg (+ 1 2))",
		"=-1=-2":            "(= (neg 1) (neg 2))",
		"= (1+2) * -( A1 )": "(* (+ 1 2) (neg A1))",
	} {
		wantParsed(t, text, want)
	}
}

// TestF1Pairs: of each pair of operators the tighter one, or the left one, is done first.
func TestF1Pairs(t *testing.T) {
	level := []int{0, 1, 1, 1, 1, 1, 1, 2, 3, 3, 4, 4}
	for a := api.Equal; a <= api.Div; a++ {
		for b := api.Equal; b <= api.Div; b++ {
			want := two(b, two(a, number(1), number(2)), number(3))
			if level[b] > level[a] {
				want = two(a, number(1), two(b, number(2), number(3)))
			}
			wantParsed(t, "=1"+signs[a]+"2"+signs[b]+"3", tree(want))
		}
	}
}

func TestF1Blanks(t *testing.T) {
	tokens := []string{"=", "(", "1", "<=", `"a b"`, ")", "&", "SUM(", "$A1:B$2", ",", "-", "-", "TRUE", ",", "#DIV!", ")", "<>", "C3", ""}
	want := `(<> (& (<= 1 "a b") SUM[$A1:B$2 (neg (neg TRUE)) #DIV!]) C3)`
	wantParsed(t, strings.Join(tokens, ""), want)
	wantParsed(t, strings.Join(tokens, " "), want)
	wantParsed(t, strings.Join(tokens, "   "), want)
	for i := range tokens[1:] {
		wantParsed(t, strings.Join(tokens[:i+1], "")+"  "+strings.Join(tokens[i+1:], ""), want)
	}
}

// TestF1NoBlanks: where a blank cannot stand, and where no other white byte stands for one.
func TestF1NoBlanks(t *testing.T) {
	for text, at := range map[string]int{
		" =1":           0,
		"=SUM (1)":      1,
		"=SUM(A1 :B2)":  8,
		"=SUM(A1: B2)":  8,
		"=SUM(A1 : B2)": 8,
		"=1< =2":        4,
		"=1> =2":        4,
		"=1< >2":        4,
		"=1 2":          3,
		"=A 1":          1,
		"=$ A1":         1,
		"=TR UE":        1,
		"=# DIV!":       1,
		"=#DIV !":       1,
		"=\t1":          1,
		"=1\n":          2,
		"=1\u00a0":      2,
		"=\r1":          1,
	} {
		wantFault(t, text, at, api.ErrSyntax)
	}
}

// TestF1Words: letters, digits and `$` that stand together are one token, which is wrong as a whole.
func TestF1Words(t *testing.T) {
	for _, word := range []string{
		"00", "01", "007", "9223372036854775808", "18446744073709551617", "99999999999999999999",
		"1A", "1E5", "0x1", "1$", "A", "AB", "A0", "A01", "A100", "AA1", "A1B", "A1b", "A$", "$", "$$A1", "A$$1", "A1$", "$1",
		"a1", "x", "true", "True", "TRUEx", "TRUE1", "TRUES", "FALSE$", "SUM", "REF",
	} {
		wantFault(t, "="+word, 1, api.ErrSyntax)
		wantFault(t, "= -"+word+" +1", 3, api.ErrSyntax)
		wantFault(t, "=SUM("+word+",1)", 5, api.ErrSyntax)
		wantFault(t, "=SUM(A1:"+word+",1)", 8, api.ErrSyntax)
		wantFault(t, "=1 "+word, 3, api.ErrSyntax)
	}
	for _, name := range []string{"A", "ABCDEFGHIJK", "sum", "Sum", "SUm", "SUM1", "$SUM", "MAX$", "A0"} {
		wantFault(t, "="+name+"(1)", 1, api.ErrSyntax)
	}
	wantFault(t, "=A1(1)", 3, api.ErrSyntax)
	wantFault(t, "=5(1)", 2, api.ErrSyntax)
}

func TestF2Places(t *testing.T) {
	for _, c := range []struct {
		text string
		at   int
	}{
		{"", 0}, {"1", 0}, {"x=1", 0}, {"\x00", 0}, {"(", 0},
		{"=", 1}, {"= ", 2}, {"=   ", 4}, {"=1+", 3}, {"=1+ ", 4}, {"=-", 2}, {"=- ", 3}, {"=(", 2}, {"=(1", 3}, {"=(1 ", 4}, {"=SUM(", 5}, {"=SUM(1", 6}, {"=SUM(1,", 7}, {"=SUM(A1:", 8}, {"=SUM(A1:B2", 10},
		{"==1", 1}, {"=+1", 1}, {"=*1", 1}, {"=1+*2", 3}, {"=1=>2", 3}, {"=1=<2", 3}, {"=1<<2", 3}, {"=1>>2", 3}, {"=1<>=2", 4}, {"=1<==2", 4}, {"=1==2", 3}, {"=1>-=2", 4},
		{"=)", 1}, {"=()", 2}, {"=1)", 2}, {"=(1))", 4}, {"=(1,2)", 3}, {"=1,2", 2}, {"=,", 1}, {"=(1 2)", 4},
		{"=SUM(,1)", 5}, {"=SUM(1,)", 7}, {"=SUM(1,,2)", 7}, {"=SUM(1 2)", 7}, {"=SUM(1))", 7}, {"=SUM(1)2", 7}, {"=SUM(1)(2)", 7}, {"=SUM(+)", 5}, {"=SUM((1,2))", 7},
		{"=A1:B2", 3}, {"=(A1:B2)", 4}, {"=SUM((A1:B2))", 8}, {"=SUM(-A1:B2)", 8}, {"=SUM(1+A1:B2)", 9}, {"=SUM(A1:B2+1)", 10}, {"=SUM(A1:B2:C3)", 10}, {"=SUM(A1::B2)", 8}, {"=SUM(:A1)", 5}, {"=SUM(A1:)", 8}, {"=SUM(1:A1)", 6}, {"=SUM(A1:1)", 8}, {"=SUM(A1:TRUE)", 8}, {"=SUM(A1:MAX(1))", 8}, {"=SUM(A1:-B2)", 8}, {"=SUM(A1:(B2))", 8}, {"=SUM(A1:B2 C3)", 11}, {"=SUM(A1:B2(1))", 10}, {"=SUM(TRUE:A1)", 9},
		{`="`, 1}, {`="x`, 1}, {`="x""`, 1}, {`="""`, 1}, {`=1&"x`, 3}, {`=1&  "x y`, 5}, {`="a"b"`, 4}, {`="a" "b"`, 5}, {`=SUM("x)`, 5}, {`=1"x`, 2}, {`=SUM(A1:"x")`, 8},
		{"=#", 1}, {"=#DIV", 1}, {"=#div!", 1}, {"=#FOO!", 1}, {"=#DIV!!", 6}, {"=#DIV!#DIV!", 6}, {"=#DIV!A", 6}, {"=1#DIV!", 2}, {"=#REF!1", 6},
		{"=1.5", 2}, {"=?", 1}, {"=1?", 2}, {"=1 ?", 3}, {"=A1_", 3}, {"=1%", 2}, {"=1;2", 2}, {"=1^2", 2}, {"='x'", 1}, {"={1}", 1}, {"=\x00", 1}, {"=1\x00", 2}, {"=(1\x00", 3}, {"=\xff", 1}, {"=\u00c41", 1}, {"=A\u0661", 1},
		{"=-9223372036854775808", 2}, {"=-00*#DIV!)+UPPER(A$5:B$2)", 2}, {"=LEFT0 B2 , #DIV!)", 1},
		{"=01+?", 1}, {"=1+01+?", 3},
	} {
		wantFault(t, c.text, c.at, api.ErrSyntax)
	}
}

// TestF2Long: the bound of the text comes ahead of all else that is wrong with it.
func TestF2Long(t *testing.T) {
	wantParsed(t, "=1"+strings.Repeat(" ", 198), "1")
	wantParsed(t, `="`+strings.Repeat("y", 197)+`"`, `"`+strings.Repeat("y", 197)+`"`)
	for _, text := range []string{
		"=1" + strings.Repeat(" ", 199), "=" + strings.Repeat("?", 200), strings.Repeat("x", 201), strings.Repeat("(", 201), strings.Repeat("=", 201),
		"=" + strings.Repeat("-", 199) + "1", `="` + strings.Repeat("y", 198) + `"`, strings.Repeat("=1", 1<<20),
	} {
		wantFault(t, text, 0, api.ErrFull)
	}
	wantFault(t, strings.Repeat("x", 200), 0, api.ErrSyntax)
	wantFault(t, "="+strings.Repeat("?", 199), 1, api.ErrSyntax)
	wantFault(t, "=1+"+strings.Repeat(" ", 197), 200, api.ErrSyntax)
}

// nested: as many levels, opened in turn by the pieces of open.
func nested(levels int, inner string, open ...string) string {
	text, shut := "=", ""
	for i := range levels {
		piece := open[i%len(open)]
		text += piece
		if piece != "-" {
			shut += ")"
		}
	}
	return text + inner + shut
}

func TestF2Levels(t *testing.T) {
	for _, open := range [][]string{{"("}, {"-"}, {"OR("}, {"(", "-"}, {"-", "OR("}, {"OR(", "(", "-"}} {
		text := nested(30, "1", open...)
		if n, at, err := formula.Parse(text); err != nil || at != 0 || n.Kind == 0 {
			t.Errorf("Parse(%q): %d, %v", text, at, err)
		}
		for _, opens := range []string{"(1)", "-1", "OR(1)", "((1))", "ORANGE(?", "--?", "(01)"} {
			text := nested(30, " "+opens, open...)
			wantFault(t, text, strings.Index(text, " ")+1, api.ErrFull)
			// Beside one another they are as deep as one alone.
			wantFault(t, "=1+"+nested(30, " "+opens, open...)[1:], strings.Index(text, " ")+3, api.ErrFull)
		}
		for _, wrong := range []string{"?", "01", "OR", "sum(1)", "A(1)", ":", "*", `"x`} {
			text := nested(30, " "+wrong, open...)
			wantFault(t, text, strings.Index(text, " ")+1, api.ErrSyntax)
		}
	}
	// What stands further to the left is told, whichever it is.
	wantFault(t, "=?"+nested(31, "1", "(")[1:], 1, api.ErrSyntax)
	wantFault(t, "=1 "+nested(31, "1", "(")[1:], 3, api.ErrSyntax)
	wantFault(t, nested(31, "?", "("), 31, api.ErrFull)
	// What can't stand there makes no level.
	wantFault(t, nested(30, "1 (", "("), 33, api.ErrSyntax)
	wantFault(t, nested(30, "A1:OR(1)", "OR("), 94, api.ErrSyntax)
}

// TestF2LevelsEnd: levels beside one another are not within one another.
func TestF2LevelsEnd(t *testing.T) {
	thirty := nested(30, "1", "(", "-")[1:]
	for _, text := range []string{
		"=" + thirty + "+" + thirty, "=" + thirty + "-" + thirty, "=" + thirty + "*" + thirty + "&" + thirty,
		"=OR(" + nested(29, "1", "-")[1:] + "," + nested(29, "1", "(")[1:] + "," + nested(29, "1", "-")[1:] + ")",
		"=" + strings.Repeat("-1*", 60) + "1", "=" + strings.Repeat("(1)+", 49) + "1", "=" + strings.Repeat("OR()+", 39) + "1",
		"=1" + strings.Repeat("-1", 99),
	} {
		if _, at, err := formula.Parse(text); err != nil || at != 0 {
			t.Errorf("Parse(%q): %d, %v", text, at, err)
		}
	}
}

func TestF3Constant(t *testing.T) {
	for text, want := range map[string]bool{
		"": true, "1": true, "x": true, " =1": true, "\x00=": true, "#DIV!": true, "+1": true, strings.Repeat("x", 300): true,
		"=": false, "=1": false, "==": false, "=?": false, "= ": false, "=" + strings.Repeat("x", 300): false,
	} {
		if got := formula.Constant(text); got != want {
			t.Errorf("Constant(%q) = %v", text, got)
		}
	}
}

func TestF3PrintOfParsed(t *testing.T) {
	for text, want := range map[string]string{
		"= (1+2) * -( A1 )":           "=(1+2)*-A1",
		"=1-(2-3)":                    "=1-(2-3)",
		"=(1-2)-3":                    "=1-2-3",
		"=1-(2+3)":                    "=1-(2+3)",
		"=1+(2+3)":                    "=1+(2+3)",
		"=1+(2*3)":                    "=1+2*3",
		"=(1+2)*3":                    "=(1+2)*3",
		"=(1*2)/3":                    "=1*2/3",
		"=1/(2*3)":                    "=1/(2*3)",
		"=(1=2)=3":                    "=1=2=3",
		"=1=(2=3)":                    "=1=(2=3)",
		"=1<(2>=3)":                   "=1<(2>=3)",
		"=(1&2)=(3&4)":                "=1&2=3&4",
		"=(1=2)&(3=4)":                "=(1=2)&(3=4)",
		"=(1+2)&(3-4)":                "=1+2&3-4",
		"=-(1)":                       "=-1",
		"=-(1*2)":                     "=-(1*2)",
		"=-(-(1))":                    "=--1",
		"=(-1)*2":                     "=-1*2",
		"=2*(-1)":                     "=2*-1",
		"=1-(-1)":                     "=1--1",
		"=-(SUM(1))":                  "=-SUM(1)",
		"=(SUM((1),(A1=2)))":          "=SUM(1,A1=2)",
		"= SUM( A1:B2 , -( C3 ) )":    "=SUM(A1:B2,-C3)",
		"=SUM( ( 1 + 2 ) , ( A1 ) )":  "=SUM(1+2,A1)",
		`= "a "" b" & " "`:            `="a "" b"&" "`,
		"=((((((((((#NONE!))))))))))": "=#NONE!",
		"=( TRUE ) <> ( FALSE )":      "=TRUE<>FALSE",
		"=$A$1 / $B2 * C$3":           "=$A$1/$B2*C$3",
		"=NONE( )":                    "=NONE()",
	} {
		n, _, err := formula.Parse(text)
		if err != nil {
			t.Errorf("Parse(%q): %v", text, err)
		}
		wantPrinted(t, n, want)
	}
}

func wantPrinted(t *testing.T, n api.Node, want string) {
	t.Helper()
	if got, err := formula.Print(n); got != want || err != nil {
		t.Errorf("Print of %s = %q, %v, want %q", tree(n), got, err, want)
	}
	if err := formula.Check(n); err != nil {
		t.Errorf("Check of %s: %v", tree(n), err)
	}
	if back, _, err := formula.Parse(want); err != nil || !same(back, n) {
		t.Errorf("Parse(%q) = %s, %v, want %s", want, tree(back), err, tree(n))
	}
}

func wantRefused(t *testing.T, what string, n api.Node, want api.Errno) {
	t.Helper()
	if err := formula.Check(n); plain.Told(err) != want {
		t.Errorf("Check of %s: %v, want %v", what, err, want)
	}
	if text, err := formula.Print(n); text != "" || plain.Told(err) != want {
		t.Errorf("Print of %s: %q, %v, want %v", what, text, err, want)
	}
}

// lawful: a node of each kind, and their edges.
func lawful() map[string]api.Node {
	return map[string]api.Node{
		"=0":                   number(0),
		"=9223372036854775807": number(math.MaxInt),
		`=""`:                  quote(""),
		`=""""`:                quote(`"`),
		"=\"\x00\xff\"":        quote("\x00\xff"),
		"=FALSE":               truth(0),
		"=TRUE":                truth(1),
		"=#DIV!":               bad(api.BadDiv),
		"=#NONE!":              bad(api.BadNone),
		"=A1":                  ref(cell(1, 1)),
		"=$Z$99":               ref(api.Ref{Cell: api.Cell{Col: 26, Row: 99}, FixCol: true, FixRow: true}),
		"=--1":                 neg(neg(number(1))),
		"=1=2":                 two(api.Equal, number(1), number(2)),
		"=1/2":                 two(api.Div, number(1), number(2)),
		"=OR()":                call("OR"),
		"=ABCDEFGHIJ(1)":       call("ABCDEFGHIJ", number(1)),
		"=TRUE()":              call("TRUE"),
		"=SUM(B2:A1,C3:C3)":    call("SUM", box(cell(2, 2), cell(1, 1)), box(cell(3, 3), cell(3, 3))),
	}
}

func TestF3PrintOfMade(t *testing.T) {
	for text, n := range lawful() {
		wantPrinted(t, n, text)
		wantPrinted(t, neg(n), neged(n, text))
		wantPrinted(t, call("SUM", n, n), "=SUM("+text[1:]+","+text[1:]+")")
		n.Kids = append([]api.Node{}, n.Kids...)
		if got, err := formula.Print(n); got != text || err != nil {
			t.Errorf("Print of %s with an empty list = %q, %v", text, got, err)
		}
	}
}

func neged(n api.Node, text string) string {
	if n.Kind == api.NodeTwo {
		return "=-(" + text[1:] + ")"
	}
	return "=-" + text[1:]
}

// wrong: nodes that F1 does not tell of, each for one reason.
func wrong() map[string]api.Node {
	l := map[string]api.Node{
		"nothing":        {},
		"kind -1":        {Kind: -1},
		"kind 10":        {Kind: 10},
		"kind MaxInt":    {Kind: math.MaxInt, Num: 1},
		"kind MinInt":    {Kind: math.MinInt},
		"-1":             number(-1),
		"MinInt":         number(math.MinInt),
		"text of 201":    quote(strings.Repeat("y", 201)),
		"truth 2":        truth(2),
		"truth -1":       truth(-1),
		"bad 0":          bad(0),
		"bad 7":          bad(7),
		"bad -1":         bad(-1),
		"bad MinInt":     bad(math.MinInt),
		"neg of none":    {Kind: api.NodeNeg},
		"neg of two":     {Kind: api.NodeNeg, Kids: []api.Node{number(1), number(2)}},
		"neg of a box":   neg(box(cell(1, 1), cell(2, 2))),
		"two of none":    {Kind: api.NodeTwo, Num: api.Add},
		"two of one":     {Kind: api.NodeTwo, Num: api.Add, Kids: []api.Node{number(1)}},
		"two of three":   {Kind: api.NodeTwo, Num: api.Add, Kids: []api.Node{number(1), number(2), number(3)}},
		"two box left":   two(api.Add, box(cell(1, 1), cell(2, 2)), number(1)),
		"two box right":  two(api.Add, number(1), box(cell(1, 1), cell(2, 2))),
		"operator 0":     two(0, number(1), number(2)),
		"operator 12":    two(12, number(1), number(2)),
		"operator -1":    two(-1, number(1), number(2)),
		"operator large": two(math.MaxInt, number(1), number(2)),
		"operator small": two(math.MinInt, number(1), number(2)),
	}
	for _, name := range []string{"", "A", "ABCDEFGHIJK", "sum", "SUm", "S1", "A1", "SU M", "SUM(", "$A", "\u00c4B", "SUM\x00", "[@", "[["} {
		l["call "+name] = call(name, number(1))
	}
	for _, r := range []api.Ref{{}, cell(0, 1), cell(27, 1), cell(1, 0), cell(1, 100), cell(-1, 1), cell(math.MaxInt, math.MinInt), {FixCol: true, FixRow: true}} {
		name := strconv.Itoa(r.Cell.Col) + "," + strconv.Itoa(r.Cell.Row) + strconv.FormatBool(r.FixCol)
		l["ref "+name] = ref(r)
		l["box in call from "+name] = call("SUM", box(r, cell(1, 1)))
		l["box in call to "+name] = call("SUM", box(cell(1, 1), r))
	}
	return l
}

func TestF3CheckWrong(t *testing.T) {
	for what, n := range wrong() {
		for where, m := range around(n) {
			wantRefused(t, what+where, m, api.ErrSyntax)
		}
	}
}

// around puts a node wherever one can stand.
func around(n api.Node) map[string]api.Node {
	return map[string]api.Node{
		" alone":            n,
		" in neg":           neg(n),
		" to the left":      two(api.Mul, n, number(1)),
		" to the right":     two(api.Mul, number(1), n),
		" in a call":        call("SUM", n),
		" in a call, last":  call("SUM", number(1), n),
		" further in":       neg(two(api.Cat, number(1), call("SUM", number(1), neg(n)))),
		" beside a wrong 1": call("SUM", n, api.Node{}),
	}
}

// TestF3CheckBox: a box is an argument, and nothing else.
func TestF3CheckBox(t *testing.T) {
	b := box(cell(1, 1), cell(2, 2))
	for where, m := range around(b) {
		switch where {
		case " in a call", " in a call, last":
			if err := formula.Check(m); err != nil {
				t.Errorf("Check of a box%s: %v", where, err)
			}
		default:
			wantRefused(t, "a box"+where, m, api.ErrSyntax)
		}
	}
}

// TestF3CheckFields: fields that a node's kind does not use are 0.
func TestF3CheckFields(t *testing.T) {
	uses := map[int]string{
		api.NodeNum: "Num", api.NodeText: "Text", api.NodeTruth: "Num", api.NodeBad: "Num", api.NodeRef: "Ref",
		api.NodeNeg: "Kids", api.NodeTwo: "Num Kids", api.NodeCall: "Text Kids", api.NodeBox: "Ref To",
	}
	nodes := lawful()
	nodes["box"] = box(cell(1, 1), cell(2, 2))
	for text, n := range nodes {
		for field, m := range filled(n) {
			if !strings.Contains(uses[n.Kind], field[:2]) {
				wantRefused(t, text+" with "+field, call("SUM", m), api.ErrSyntax)
			}
		}
	}
}

// filled: the node with each of its fields filled.
func filled(n api.Node) map[string]api.Node {
	l := map[string]api.Node{}
	fill := func(field string, change func(m *api.Node)) {
		m := n
		change(&m)
		l[field] = m
	}
	fill("Num", func(m *api.Node) { m.Num = 1 })
	fill("Num below 0", func(m *api.Node) { m.Num = -1 })
	fill("Text", func(m *api.Node) { m.Text = "x" })
	fill("Ref", func(m *api.Node) { m.Ref = cell(1, 1) })
	fill("Ref, its column fixed alone", func(m *api.Node) { m.Ref = api.Ref{FixCol: true} })
	fill("To", func(m *api.Node) { m.To = cell(1, 1) })
	fill("To, its row fixed alone", func(m *api.Node) { m.To = api.Ref{FixRow: true} })
	fill("Kids", func(m *api.Node) { m.Kids = []api.Node{number(1)} })
	return l
}

// wide: a call of as many nodes in all.
func wide(nodes int) api.Node {
	n := call("SUM")
	for range nodes - 1 {
		n.Kids = append(n.Kids, number(1))
	}
	return n
}

// deep: as many nodes in all, each within the one ahead.
func deep(nodes int) api.Node {
	n := number(1)
	for range nodes - 1 {
		n = neg(n)
	}
	return n
}

// TestF3CheckMany: too many nodes are told ahead of wrong ones, and these ahead of a text that is too long.
func TestF3CheckMany(t *testing.T) {
	for _, make := range []func(int) api.Node{wide, deep} {
		wantRefused(t, "200 nodes", make(200), api.ErrFull)
		wantRefused(t, "201 nodes", make(201), api.ErrFull)
		wantRefused(t, "100000 nodes", make(100000), api.ErrFull)
		wantRefused(t, "200 nodes, a wrong one among them", two(0, make(198), number(1)), api.ErrSyntax)
		wantRefused(t, "201 nodes, a wrong one among them", two(0, make(199), number(1)), api.ErrFull)
		wantRefused(t, "200 nodes, the last one wrong", two(api.Add, make(198), number(-1)), api.ErrSyntax)
		wantRefused(t, "201 nodes, the last one wrong", two(api.Add, make(199), number(-1)), api.ErrFull)
		stray := number(1)
		stray.Kids = []api.Node{make(199)}
		wantRefused(t, "200 nodes below a number", stray, api.ErrSyntax)
		stray.Kids = []api.Node{make(200)}
		wantRefused(t, "201 nodes below a number", stray, api.ErrFull)
	}
	n := number(1)
	for range 99 {
		n = two(api.Add, n, number(1))
	}
	wantPrinted(t, n, "=1"+strings.Repeat("+1", 99))
}

// TestF3CheckShared: a node that stands at several places counts at each, without end if it stands below itself.
func TestF3CheckShared(t *testing.T) {
	n, text := number(1), "1"
	for range 5 {
		n, text = call("OR", n, n), "OR("+text+","+text+")"
		wantPrinted(t, n, "="+text)
	}
	for range 100 {
		n = call("OR", n, n)
		wantRefused(t, "doubled", n, api.ErrFull)
	}
	for _, kind := range []int{0, api.NodeNum, api.NodeNeg, api.NodeTwo, api.NodeCall} {
		kids := make([]api.Node, 2)
		kids[0] = api.Node{Kind: kind, Num: 1, Text: "OR", Kids: kids}
		kids[1] = kids[0]
		wantRefused(t, "a circle", kids[0], api.ErrFull)
		wantRefused(t, "a circle of one", api.Node{Kind: kind, Kids: kids[:1]}, api.ErrFull)
	}
}

func TestF3CheckLong(t *testing.T) {
	wantPrinted(t, quote(strings.Repeat("y", 197)), `="`+strings.Repeat("y", 197)+`"`)
	wantPrinted(t, quote(strings.Repeat(`"`, 98)+"y"), `="`+strings.Repeat(`"`, 196)+`y"`)
	for what, n := range map[string]api.Node{
		"198 bytes":           quote(strings.Repeat("y", 198)),
		"200 bytes":           quote(strings.Repeat("y", 200)),
		"99 quotes":           quote(strings.Repeat(`"`, 99)),
		"200 quotes":          quote(strings.Repeat(`"`, 200)),
		"two texts":           two(api.Cat, quote(strings.Repeat("y", 100)), quote(strings.Repeat("y", 95))),
		"many texts":          call("SUM", slices.Repeat([]api.Node{quote(strings.Repeat("y", 200))}, 199)...),
		"brackets":            two(api.Mul, two(api.Add, quote(strings.Repeat("y", 100)), quote(strings.Repeat("y", 91))), number(1)),
		"a minus for a bound": neg(quote(strings.Repeat("y", 197))),
	} {
		wantRefused(t, what, n, api.ErrFull)
	}
	wantPrinted(t, two(api.Cat, quote(strings.Repeat("y", 99)), quote(strings.Repeat("y", 95))), `="`+strings.Repeat("y", 99)+`"&"`+strings.Repeat("y", 95)+`"`)
	wantPrinted(t, two(api.Mul, two(api.Add, quote(strings.Repeat("y", 100)), quote(strings.Repeat("y", 90))), number(1)), `=("`+strings.Repeat("y", 100)+`"+"`+strings.Repeat("y", 90)+`")*1`)
}

func TestF3CheckLevels(t *testing.T) {
	for _, c := range []struct {
		open, inner, shut string
		levels, within    int // that each makes, and that the inner one has
		wrap              func(n api.Node) api.Node
	}{
		{"-", "(1+2)", "", 1, 1, neg},
		{"OR(", "1+2", ")", 1, 0, func(n api.Node) api.Node { return call("OR", n) }},
		{"1-(", "1+2", ")", 1, 0, func(n api.Node) api.Node { return two(api.Sub, number(1), n) }},
		{"OR(-", "(1+2)", ")", 2, 1, func(n api.Node) api.Node { return call("OR", neg(n)) }},
		{"-(3*", "(1+2)", ")", 2, 1, func(n api.Node) api.Node { return neg(two(api.Mul, number(3), n)) }},
	} {
		n := two(api.Add, number(1), number(2))
		for many := 1; many <= 40; many++ {
			n = c.wrap(n)
			if many*c.levels+c.within > 30 {
				wantRefused(t, strconv.Itoa(many)+" times "+c.open, n, api.ErrFull)
				continue
			}
			wantPrinted(t, n, "="+strings.Repeat(c.open, many)+c.inner+strings.Repeat(c.shut, many))
		}
	}
	// Brackets that need not be there are no levels.
	n := number(1)
	for range 40 {
		n = two(api.Sub, n, number(1))
	}
	wantPrinted(t, n, "=1"+strings.Repeat("-1", 40))
	wantPrinted(t, two(api.Sub, deep(31), deep(31)), "="+strings.Repeat("-", 30)+"1-"+strings.Repeat("-", 30)+"1")
}

// TestF3LeavesBe: what is handed in is not written into, and what comes out is fresh.
func TestF3LeavesBe(t *testing.T) {
	n, _, _ := formula.Parse("=SUM(1,2,A1:B2)*-(3+4)")
	before := tree(n)
	for range 2 {
		if _, err := formula.Print(n); err != nil || tree(n) != before {
			t.Fatalf("Print left %s, %v of %s", tree(n), err, before)
		}
	}
	m, _, _ := formula.Parse("=SUM(1,2,A1:B2)*-(3+4)")
	m.Kids[0].Kids[0] = number(9)
	m.Kids[0].Kids = append(m.Kids[0].Kids, number(9))
	m.Kids[1].Kids[0].Kids[1] = number(9)
	if again, _, _ := formula.Parse("=SUM(1,2,A1:B2)*-(3+4)"); tree(n) != before || tree(again) != before {
		t.Errorf("what was written into one answer is seen in another: %s, %s", tree(n), tree(again))
	}
}

// TestRewrite: a text stays, if its formula does, however it is written; else the new one is printed.
func TestRewrite(t *testing.T) {
	long := quote(strings.Repeat("x", api.MaxText))
	same := func(n api.Node) (api.Node, error) { return n, nil }
	to := func(n api.Node) func(api.Node) (api.Node, error) {
		return func(api.Node) (api.Node, error) { return n, nil }
	}
	refuse := func(api.Node) (api.Node, error) { return number(1), api.ErrOrder }
	for _, c := range []struct {
		text   string
		change func(api.Node) (api.Node, error)
		want   string
		err    api.Errno
	}{
		{"= ( A1 ) ", same, "= ( A1 ) ", api.OK},
		{"=A1", same, "=A1", api.OK},
		{"= ( A1 ) ", to(ref(cell(1, 1))), "= ( A1 ) ", api.OK},
		{"= ( A1 ) ", to(ref(cell(2, 1))), "=B1", api.OK},
		{"=A1", to(number(7)), "=7", api.OK},
		{"=A1", to(long), "", api.ErrFull},
		{"=A1", to(api.Node{}), "", api.ErrSyntax},
		{"=A1", refuse, "", api.ErrOrder},
		{"A1", refuse, "A1", api.OK},
		{" =A1", to(number(7)), " =A1", api.OK},
		{"", to(number(7)), "", api.OK},
	} {
		n, _, err := formula.Parse(c.text)
		if err != nil && !formula.Constant(c.text) {
			t.Fatal(err)
		}
		if got, err := formula.Rewrite(c.text, n, c.change); got != c.want || plain.Told(err) != c.err {
			t.Errorf("Rewrite(%q): %q, %v; want %q, %v", c.text, got, err, c.want, c.err)
		}
	}
	if got, err := formula.Rewrite("=A1", api.Node{}, same); got != "" || plain.Told(err) != api.ErrSyntax {
		t.Errorf("Rewrite of no node: %q, %v", got, err)
	}
}
