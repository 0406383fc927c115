package eval_test

import (
	"fmt"
	"math"
	"strings"
	"testing"

	"sccsettle/api"
	"sccsettle/eval"
)

const (
	greatest = "9223372036854775807"
	least    = "(-9223372036854775807-1)"
)

func TestE2Numbers(t *testing.T) {
	wantRows(t, kinds(), []row{
		{`=SUM(A1:A8)`, number(-7)},
		{`=SUM(A8:$A$1)`, number(-7)},
		{`=SUM(A1)`, number(3)},
		{`=SUM(A8)`, number(0)},
		{`=SUM(A3,A5,"-2")`, number(11)},
		{`=SUM(A1:A8,TRUE,A1:A1)`, number(-3)},
		{`=SUM(B1:B9)`, number(0)},
		{`=SUM(A2)`, badValue},
		{`=SUM(A7)`, badValue},
		{`=SUM(1,A2,C1)`, badValue},
		{`=SUM(1,C1,A2)`, badNum},
		{`=SUM(C1:C2)`, badNum},
		{`=SUM(C2,C1:C1)`, badRef},
		{`=SUM(A1:C2)`, badNum},
		{`=SUM(A2:C2)`, badRef},
		{`=SUM(A1:A8,"x",C1)`, badValue},
		{`=MIN(A1:A8)`, number(-10)},
		{`=MAX(A1:A8)`, number(3)},
		{`=MAX(A1:A8,A5)`, number(12)},
		{`=MIN(B1:B9)`, number(0)},
		{`=MAX(B1:B9)`, number(0)},
		{`=MAX(A2:A3)`, number(0)},
		{`=MIN(5)`, number(5)},
		{`=MIN(5,B1)`, number(0)},
		{`=MIN(5,B1:B1)`, number(5)},
		{`=MAX(-5)`, number(-5)},
		{`=MAX(-5,B1:B1)`, number(-5)},
		{`=MIN(A2)`, badValue},
		{`=MAX(1,C1:C2)`, badNum},
		{`=MIN(1,C2)`, badRef},
		{`=AVG(A1:A8)`, number(-3)},
		{`=AVG(3,4)`, number(3)},
		{`=AVG(-3,-4)`, number(-3)},
		{`=AVG(B1)`, number(0)},
		{`=AVG(B1:B9)`, badDiv},
		{`=AVG(A2:A3)`, badDiv},
		{`=AVG(A2:A3,C2:C2)`, badRef},
		{`=AVG("x")`, badValue},
		{`=AVG(TRUE,A1)`, number(2)},
	})
}

// TestE2RowByRow: of what is bad in a box the first by rows is the answer, whatever the corners.
func TestE2RowByRow(t *testing.T) {
	l := []api.Shown{shown("B1", badNone), shown("A2", badRef), shown("B2", badName)}
	for _, box := range []string{"A1:B2", "B2:A1", "A2:B1", "B1:A2"} {
		for _, name := range []string{"SUM", "MIN", "MAX", "AVG", "AND", "OR", "CAT"} {
			wantRows(t, l, []row{{fmt.Sprintf("=%s(%s)", name, box), badNone}})
		}
	}
	for _, name := range []string{"SUM", "MIN", "MAX", "AVG", "AND", "OR", "CAT"} {
		wantRows(t, l, []row{
			{fmt.Sprintf("=%s(A2:B2,B1)", name), badRef},
			{fmt.Sprintf("=%s(B2:B2,A1:B2)", name), badName},
			{fmt.Sprintf("=%s(A1:A1,1/0,B1)", name), badDiv},
		})
	}
}

// TestE2Bounds: a sum that leaves the 64 bits is BadNum though it would come back; what is bad is told ahead of that.
func TestE2Bounds(t *testing.T) {
	l := []api.Shown{
		shown("A1", number(math.MaxInt)), shown("B1", number(1)), shown("A2", number(-1)), shown("B2", number(-1)),
		shown("C1", number(math.MinInt)),
	}
	wantRows(t, l, []row{
		{`=SUM(A1:B2)`, badNum},
		{`=SUM(A2:B2,A1:B1)`, number(math.MaxInt - 1)},
		{`=SUM(A1:A2,B1)`, number(math.MaxInt)},
		{`=SUM(A1,B1,-1)`, badNum},
		{`=SUM(A1,-1,B1)`, number(math.MaxInt)},
		{`=SUM(C1,A2)`, badNum},
		{`=SUM(C1,A1)`, number(-1)},
		{`=SUM(A1,B1,1/0)`, badDiv},
		{`=SUM(A1,B1,"x")`, badValue},
		{`=AVG(A1,B1)`, badNum},
		{`=AVG(A1,B1,-1)`, badNum},
		{`=AVG(A1,-1,B1)`, number(math.MaxInt / 3)},
		{`=AVG(C1)`, number(math.MinInt)},
		{`=MAX(A1:C2)`, number(math.MaxInt)},
		{`=MIN(A1:C2)`, number(math.MinInt)},
	})
}

// TestE2Sum: Sum of values is what SUM of a box makes of them, row by row.
func TestE2Sum(t *testing.T) {
	for _, l := range [][]api.Value{
		nil, {number(3)}, {number(3), yes, text("7"), blank, number(-5)}, {badRef, badNum}, {number(1), badNum, badRef},
		{number(math.MaxInt), number(1), number(-1)}, {number(math.MaxInt), number(-1), number(1)}, {number(math.MinInt), number(-1)},
		{number(math.MaxInt), number(1), badDiv}, {text("x")},
	} {
		var cells []api.Shown
		for i, v := range l {
			cells = append(cells, api.Shown{Cell: api.Cell{Col: 1 + i%2, Row: 1 + i/2}, Value: v})
		}
		wantRows(t, cells, []row{{`=SUM(A1:B3)`, eval.Sum(l)}})
	}
}

func TestE2Counts(t *testing.T) {
	wantRows(t, kinds(), []row{
		{`=COUNT(A1:A8)`, number(2)},
		{`=COUNT(A1:C8)`, number(2)},
		{`=COUNT(C1:C2)`, number(0)},
		{`=COUNT(A1,A2,A3,A4,A5,A6,A7,A8)`, number(6)},
		{`=COUNT(C1,1/0)`, number(0)},
		{`=COUNT(B1)`, number(1)},
		{`=COUNT(B1:B1)`, number(0)},
		{`=COUNT(A1:A4,A4:A1,7)`, number(5)},
		{`=COUNTA(A1:A8)`, number(7)},
		{`=COUNTA(A1:C8)`, number(9)},
		{`=COUNTA(A1,A2,A3,A4,A5,A6,A7,A8)`, number(7)},
		{`=COUNTA(C1,1/0,FLY())`, number(3)},
		{`=COUNTA(B1,B2:B3)`, number(0)},
		{`=COUNTA("",0,FALSE)`, number(3)},
		{`=COUNTA(A1:Z99)`, number(9)},
	})
}

func TestE2Truths(t *testing.T) {
	wantRows(t, kinds(), []row{
		{`=AND(A1:A5)`, yes},
		{`=AND(A1:A6)`, no},
		{`=OR(A6:A8)`, no},
		{`=OR(A5:A8)`, no},
		{`=OR(A4:A8)`, yes},
		{`=OR(A3:A8)`, yes},
		{`=AND(A3:A3)`, yes},
		{`=AND(TRUE,1,"TRUE",-5)`, yes},
		{`=AND(TRUE,0)`, no},
		{`=AND(TRUE,"FALSE")`, no},
		{`=AND(A8)`, no},
		{`=OR(A8)`, no},
		{`=OR(FALSE,0,"FALSE",A8)`, no},
		{`=OR(FALSE,"TRUE")`, yes},
		{`=AND(B1:B9)`, badValue},
		{`=OR(B1:B9)`, badValue},
		{`=AND(A2:A2,A5:A5,A7:A8)`, badValue},
		{`=OR(A2:A2,A5:A5,A7:A8)`, badValue},
		{`=AND(B1:B9,TRUE)`, yes},
		{`=OR(B1:B9,FALSE)`, no},
		{`=AND(FALSE,A2)`, badValue},
		{`=OR(TRUE,A5)`, badValue},
		{`=OR(TRUE,A7)`, badValue},
		{`=AND(FALSE,C1)`, badNum},
		{`=OR(TRUE,C2)`, badRef},
		{`=OR(TRUE,C1:C2)`, badNum},
		{`=AND("x",1/0)`, badValue},
		{`=AND(1/0,"x")`, badDiv},
	})
}

func TestE2Cat(t *testing.T) {
	long := strings.Repeat("y", 100)
	l := append(kinds(), shown("D1", text(long)), shown("D2", text(long)), shown("E1", text("1")), shown("F1", number(2)), shown("E2", text("3")), shown("F2", text("4")))
	wantRows(t, l, []row{
		{`=CAT(A1:A8)`, text("3xTRUE-1012FALSE")},
		{`=CAT(E1:F2)`, text("1234")},
		{`=CAT(F2:E1,"a",TRUE,A8,-5)`, text("1234aTRUE-5")},
		{`=CAT(A8)`, text("")},
		{`=CAT(B1:B9)`, text("")},
		{`=CAT(12)`, text("12")},
		{`=CAT(TRUE)`, text("TRUE")},
		{`=CAT(D1:D2)`, text(long + long)},
		{`=CAT(D1,D2,A8,A7,B1:B9)`, text(long + long)},
		{`=CAT(D1:D2,0)`, badValue},
		{`=CAT(0,D1:D2)`, badValue},
		{`=CAT(1,C1,C2)`, badNum},
		{`=CAT(C2,C1)`, badRef},
		{`=CAT(D1:D2,0,C1)`, badValue},
		{`=CAT(D1:D2,C1,0)`, badNum},
	})
}

func TestE3Choice(t *testing.T) {
	wantRows(t, kinds(), []row{
		{`=IF(TRUE,1,2)`, number(1)},
		{`=IF(FALSE,1,2)`, number(2)},
		{`=IF(-3,"a","b")`, text("a")},
		{`=IF(0,"a","b")`, text("b")},
		{`=IF(B1,"a","b")`, text("b")},
		{`=IF("TRUE","a","b")`, text("a")},
		{`=IF("FALSE","a","b")`, text("b")},
		{`=IF("x",1,2)`, badValue},
		{`=IF("1",1,2)`, badValue},
		{`=IF("",1,2)`, badValue},
		{`=IF(C1,C2,C2)`, badNum},
		{`=IF(TRUE,B1)`, blank},
		{`=IF(TRUE,1)`, number(1)},
		{`=IF(FALSE,1)`, no},
		{`=IF(B1,1/0)`, no},
		{`=IF(FALSE,1,B1)`, blank},
		{`=IF(TRUE,1,1/0)`, number(1)},
		{`=IF(FALSE,1/0,2)`, number(2)},
		{`=IF(TRUE,1/0,2)`, badDiv},
		{`=IF(FALSE,1,1/0)`, badDiv},
		{`=IFBAD(1,2)`, number(1)},
		{`=IFBAD(B1,2)`, blank},
		{`=IFBAD("x",1/0)`, text("x")},
		{`=IFBAD(1/0,2)`, number(2)},
		{`=IFBAD(C1,C2)`, badRef},
		{`=IFBAD(C1,B1)`, blank},
		{`=CHOOSE(1,"a","b","c")`, text("a")},
		{`=CHOOSE(3,"a","b","c")`, text("c")},
		{`=CHOOSE(0,"a","b","c")`, badValue},
		{`=CHOOSE(4,"a","b","c")`, badValue},
		{`=CHOOSE(-1,"a","b","c")`, badValue},
		{`=CHOOSE(` + greatest + `,"a")`, badValue},
		{`=CHOOSE(` + least + `,"a")`, badValue},
		{`=CHOOSE(TRUE,B1)`, blank},
		{`=CHOOSE("2","a","b")`, text("b")},
		{`=CHOOSE("x","a","b")`, badValue},
		{`=CHOOSE(B1,"a")`, badValue},
		{`=CHOOSE(C1,C2)`, badNum},
		{`=CHOOSE(2,1/0,"b",C1)`, text("b")},
		{`=CHOOSE(1,1/0,"b",C1)`, badDiv},
	})
}

func TestE3Asked(t *testing.T) {
	for i, c := range []struct {
		name             string
		bad, none, count api.Value
	}{
		{"A1", no, no, yes}, {"A2", no, no, no}, {"A3", no, no, no}, {"A4", no, no, yes}, {"A5", no, no, no},
		{"A6", no, no, no}, {"A7", no, no, no}, {"A8", no, yes, no}, {"C1", yes, no, no}, {"C2", yes, no, no},
		{"1/0", yes, no, no}, {"FLY(1)", yes, no, no}, {"0", no, no, yes}, {`""`, no, no, no}, {"NONE()", yes, no, no},
	} {
		t.Run(fmt.Sprint(i), func(t *testing.T) {
			wantRows(t, kinds(), []row{
				{"=BADP(" + c.name + ")", c.bad},
				{"=BLANKP(" + c.name + ")", c.none},
				{"=NUMP(" + c.name + ")", c.count},
			})
		})
	}
}

func TestE3Reckoned(t *testing.T) {
	wantRows(t, kinds(), []row{
		{`=NOT(TRUE)`, no},
		{`=NOT(FALSE)`, yes},
		{`=NOT(B1)`, yes},
		{`=NOT(0)`, yes},
		{`=NOT(-2)`, no},
		{`=NOT("TRUE")`, no},
		{`=NOT("FALSE")`, yes},
		{`=NOT("1")`, badValue},
		{`=NOT("")`, badValue},
		{`=ABS(5)`, number(5)},
		{`=ABS(-5)`, number(5)},
		{`=ABS(0)`, number(0)},
		{`=ABS(B1)`, number(0)},
		{`=ABS(TRUE)`, number(1)},
		{`=ABS("-7")`, number(7)},
		{`=ABS("x")`, badValue},
		{`=ABS(-` + greatest + `)`, number(math.MaxInt)},
		{`=ABS(` + least + `)`, badNum},
		{`=SIGN(12)`, number(1)},
		{`=SIGN(-12)`, number(-1)},
		{`=SIGN(0)`, number(0)},
		{`=SIGN(B1)`, number(0)},
		{`=SIGN(TRUE)`, number(1)},
		{`=SIGN("-3")`, number(-1)},
		{`=SIGN("x")`, badValue},
		{`=SIGN(` + least + `)`, number(-1)},
		{`=SIGN(` + greatest + `)`, number(1)},
		{`=MOD(7,3)`, number(1)},
		{`=MOD(-7,3)`, number(2)},
		{`=MOD(7,-3)`, number(-2)},
		{`=MOD(7,0)`, badDiv},
		{`=MOD(7,B1)`, badDiv},
		{`=MOD(TRUE,"2")`, number(1)},
		{`=MOD("x",0)`, badValue},
		{`=MOD(1,"x")`, badValue},
		{`=MOD(` + least + `,-1)`, number(0)},
		{`=NONE()`, badNone},
	})
}

func TestE3Power(t *testing.T) {
	wantRows(t, nil, []row{
		{`=POWER(2,10)`, number(1024)},
		{`=POWER(-3,3)`, number(-27)},
		{`=POWER(5,0)`, number(1)},
		{`=POWER(0,0)`, number(1)},
		{`=POWER(0,64)`, number(0)},
		{`=POWER(5,1)`, number(5)},
		{`=POWER(1,64)`, number(1)},
		{`=POWER(-1,64)`, number(1)},
		{`=POWER(-1,63)`, number(-1)},
		{`=POWER(1,65)`, badNum},
		{`=POWER(0,65)`, badNum},
		{`=POWER(1,-1)`, badNum},
		{`=POWER(1,` + greatest + `)`, badNum},
		{`=POWER(1,` + least + `)`, badNum},
		{`=POWER(2,62)`, number(1 << 62)},
		{`=POWER(2,63)`, badNum},
		{`=POWER(2,64)`, badNum},
		{`=POWER(-2,63)`, number(math.MinInt)},
		{`=POWER(-2,64)`, badNum},
		{`=POWER(3037000499,2)`, number(3037000499 * 3037000499)},
		{`=POWER(3037000500,2)`, badNum},
		{`=POWER(` + least + `,1)`, number(math.MinInt)},
		{`=POWER(` + least + `,2)`, badNum},
		{`=POWER("3",TRUE)`, number(3)},
		{`=POWER(A1,A1)`, number(1)},
		{`=POWER("x",65)`, badValue},
		{`=POWER(1,"x")`, badValue},
	})
}

func TestE4Parts(t *testing.T) {
	wantRows(t, kinds(), []row{
		{`=LEN("abc")`, number(3)},
		{`=LEN("")`, number(0)},
		{`=LEN(B1)`, number(0)},
		{`=LEN("é")`, number(2)},
		{`=LEN(-12)`, number(3)},
		{`=LEN(TRUE)`, number(4)},
		{`=LEN(FALSE)`, number(5)},
		{`=LEN(` + least + `)`, number(20)},
		{`=LEFT("abc",2)`, text("ab")},
		{`=LEFT("abc",0)`, text("")},
		{`=LEFT("abc",3)`, text("abc")},
		{`=LEFT("abc",4)`, text("abc")},
		{`=LEFT("abc",` + greatest + `)`, text("abc")},
		{`=LEFT("abc",-1)`, badValue},
		{`=LEFT("abc",` + least + `)`, badValue},
		{`=LEFT(123,2)`, text("12")},
		{`=LEFT(TRUE,TRUE)`, text("T")},
		{`=LEFT("abc","2")`, text("ab")},
		{`=LEFT("abc","x")`, badValue},
		{`=LEFT("abc",B1)`, text("")},
		{`=LEFT("é",1)`, text("\xc3")},
		{`=LEFT(B1,5)`, text("")},
		{`=RIGHT("abc",2)`, text("bc")},
		{`=RIGHT("abc",0)`, text("")},
		{`=RIGHT("abc",3)`, text("abc")},
		{`=RIGHT("abc",4)`, text("abc")},
		{`=RIGHT("abc",` + greatest + `)`, text("abc")},
		{`=RIGHT("abc",-1)`, badValue},
		{`=RIGHT("abc",` + least + `)`, badValue},
		{`=RIGHT(-12,2)`, text("12")},
		{`=RIGHT("abc","x")`, badValue},
		{`=RIGHT("é",1)`, text("\xa9")},
		{`=MID("abcde",2,3)`, text("bcd")},
		{`=MID("abcde",1,5)`, text("abcde")},
		{`=MID("abcde",1,0)`, text("")},
		{`=MID("abcde",5,1)`, text("e")},
		{`=MID("abcde",5,2)`, text("e")},
		{`=MID("abcde",6,1)`, text("")},
		{`=MID("abcde",7,1)`, text("")},
		{`=MID("abcde",2,` + greatest + `)`, text("bcde")},
		{`=MID("abcde",` + greatest + `,` + greatest + `)`, text("")},
		{`=MID("abcde",0,1)`, badValue},
		{`=MID("abcde",-1,1)`, badValue},
		{`=MID("abcde",` + least + `,1)`, badValue},
		{`=MID("abcde",1,-1)`, badValue},
		{`=MID("abcde",9,-1)`, badValue},
		{`=MID("abcde",1,` + least + `)`, badValue},
		{`=MID("",0,0)`, badValue},
		{`=MID(12345,"2",TRUE)`, text("2")},
		{`=MID("abc","x",1)`, badValue},
		{`=MID("abc",1,"x")`, badValue},
	})
}

func TestE4Letters(t *testing.T) {
	var raw, upper, lower strings.Builder
	for b := range 128 {
		raw.WriteByte(byte(b))
		upper.WriteString(strings.ToUpper(string(rune(b))))
		lower.WriteString(strings.ToLower(string(rune(b))))
	}
	high := make([]byte, 128)
	for i := range high {
		high[i] = byte(128 + i)
	}
	l := append(kinds(), shown("D1", text(raw.String())), shown("D2", text(string(high))))
	wantRows(t, l, []row{
		{`=UPPER("abYZz1")`, text("ABYZZ1")},
		{`=LOWER("abYZAz1")`, text("abyzaz1")},
		{`=UPPER("é")`, text("é")},
		{`=LOWER("É")`, text("É")},
		{`=UPPER(D1)`, text(upper.String())},
		{`=LOWER(D1)`, text(lower.String())},
		{`=UPPER(D2)`, text(string(high))},
		{`=LOWER(D2)`, text(string(high))},
		{`=LOWER(TRUE)`, text("true")},
		{`=UPPER(FALSE)`, text("FALSE")},
		{`=UPPER(-12)`, text("-12")},
		{`=UPPER(B1)`, text("")},
		{`=LOWER(B1)`, text("")},
	})
}

func TestE4Held(t *testing.T) {
	long := strings.Repeat("y", 200)
	l := append(kinds(), shown("D1", text(long)), shown("D2", text(long[:100])), shown("D3", text(long[:67])))
	wantRows(t, l, []row{
		{`=FIND("b","abcb")`, number(2)},
		{`=FIND("a","abcb")`, number(1)},
		{`=FIND("cb","abcb")`, number(3)},
		{`=FIND("abcb","abcb")`, number(1)},
		{`=FIND("abcbd","abcb")`, badValue},
		{`=FIND("x","abcb")`, badValue},
		{`=FIND("B","abcb")`, badValue},
		{`=FIND("","abc")`, number(1)},
		{`=FIND(B1,"")`, number(1)},
		{`=FIND("a",B1)`, badValue},
		{`=FIND(2,123)`, number(2)},
		{`=FIND("U",TRUE)`, number(3)},
		{`=FIND("x","éx")`, number(3)},
		{`=REPT("ab",3)`, text("ababab")},
		{`=REPT("ab",1)`, text("ab")},
		{`=REPT("ab",0)`, text("")},
		{`=REPT("ab",-1)`, badValue},
		{`=REPT("ab",` + least + `)`, badValue},
		{`=REPT("",-1)`, badValue},
		{`=REPT("",` + greatest + `)`, text("")},
		{`=REPT(B1,5)`, text("")},
		{`=REPT("y",200)`, text(long)},
		{`=REPT("y",201)`, badValue},
		{`=REPT(D2,2)`, text(long)},
		{`=REPT(D2,3)`, badValue},
		{`=REPT(D3,3)`, badValue},
		{`=REPT(D3,2)`, text(long[:134])},
		{`=REPT(D1,1)`, text(long)},
		{`=REPT(D1,2)`, badValue},
		{`=REPT("ab",4611686018427387905)`, badValue},
		{`=REPT("abcd",4611686018427387904)`, badValue},
		{`=REPT("ab",` + greatest + `)`, badValue},
		{`=REPT(-1,"2")`, text("-1-1")},
		{`=REPT(TRUE,TRUE)`, text("TRUE")},
		{`=REPT("a","x")`, badValue},
		{`=EXACT("a","a")`, yes},
		{`=EXACT("a","A")`, no},
		{`=EXACT("a","ab")`, no},
		{`=EXACT(1,"1")`, yes},
		{`=EXACT(TRUE,"TRUE")`, yes},
		{`=EXACT(B1,"")`, yes},
		{`=EXACT(B1,0)`, no},
		{`=EXACT(TRUE,1)`, no},
		{`=VALUE("12")`, number(12)},
		{`=VALUE("-12")`, number(-12)},
		{`=VALUE(12)`, number(12)},
		{`=VALUE(` + least + `)`, number(math.MinInt)},
		{`=VALUE("012")`, badValue},
		{`=VALUE("x")`, badValue},
		{`=VALUE("")`, badValue},
		{`=VALUE("9223372036854775808")`, badValue},
		{`=VALUE("#DIV!")`, badValue},
	})
}

// TestE4ValueAsShown: what VALUE is given is a text, as it is shown: TRUE, and nothing, are none of a number.
func TestE4ValueAsShown(t *testing.T) {
	wantRows(t, kinds(), []row{
		{`=VALUE(TRUE)`, badValue},
		{`=VALUE(A6)`, badValue},
		{`=VALUE("TRUE")`, badValue},
		{`=VALUE(B1)`, badValue},
	})
}

// table: A1 to C4, of which the first column has a name twice, and what is bad.
func table() []api.Shown {
	return []api.Shown{
		shown("A1", badNone), shown("B1", number(1)), shown("C1", text("one")),
		shown("A2", text("k")), shown("B2", number(2)), shown("C2", badDiv),
		shown("A3", number(0)), shown("B3", yes), shown("C3", text("three")),
		shown("A4", text("k")), shown("B4", number(40)), shown("C4", number(7)),
	}
}

func TestE5Index(t *testing.T) {
	wantRows(t, table(), []row{
		{`=ROWS(A1:C4)`, number(4)},
		{`=COLS(A1:C4)`, number(3)},
		{`=ROWS(C4:A1)`, number(4)},
		{`=COLS(C1:A4)`, number(3)},
		{`=ROWS(B2:B2)`, number(1)},
		{`=COLS(B2:B2)`, number(1)},
		{`=ROWS(A1:Z99)`, number(99)},
		{`=COLS(A1:Z99)`, number(26)},
		{`=INDEX(A1:C4,1,3)`, text("one")},
		{`=INDEX(C4:A1,1,3)`, text("one")},
		{`=INDEX(A1:C4,4,2)`, number(40)},
		{`=INDEX(B2:C4,1,1)`, number(2)},
		{`=INDEX(B2:C4,3,2)`, number(7)},
		{`=INDEX(A1:C4,2,3)`, badDiv},
		{`=INDEX(D1:E2,2,2)`, blank},
		{`=INDEX(A1:C4,"2",TRUE)`, text("k")},
		{`=INDEX(A1:C4,0,1)`, badRef},
		{`=INDEX(A1:C4,1,0)`, badRef},
		{`=INDEX(A1:C4,5,1)`, badRef},
		{`=INDEX(A1:C4,1,4)`, badRef},
		{`=INDEX(A1:C4,-1,1)`, badRef},
		{`=INDEX(A1:C4,` + greatest + `,1)`, badRef},
		{`=INDEX(A1:C4,1,` + greatest + `)`, badRef},
		{`=INDEX(A1:C4,` + least + `,1)`, badRef},
		{`=INDEX(A1:C4,B9,1)`, badRef},
		{`=INDEX(A1:C4,"x",9)`, badValue},
		{`=INDEX(A1:C4,9,"x")`, badValue},
	})
}

func TestE5Match(t *testing.T) {
	wantRows(t, table(), []row{
		{`=MATCH("k",A1:A4)`, number(2)},
		{`=MATCH("k",A1:C4)`, number(4)},
		{`=MATCH("k",C4:A1)`, number(4)},
		{`=MATCH(40,A1:C4)`, number(11)},
		{`=MATCH(TRUE,A1:C4)`, number(8)},
		{`=MATCH(1,B1:B4)`, number(1)},
		{`=MATCH("1",B1:B4)`, badNone},
		{`=MATCH("K",A1:A4)`, badNone},
		{`=MATCH(D1,A1:A4)`, number(3)},
		{`=MATCH(D1,B1:B4)`, badNone},
		{`=MATCH(0,D1:D4)`, number(1)},
		{`=MATCH("",D1:D4)`, number(1)},
		{`=MATCH(FALSE,D1:D4)`, number(1)},
		{`=MATCH(D9,D1:D4)`, number(1)},
		{`=MATCH(7,C1:C4)`, number(4)},
		{`=MATCH("#NONE!",A1:A4)`, badNone},
		{`=MATCH(A1,A1:A4)`, badNone},
		{`=MATCH(C2,A1:A4)`, badDiv},
		{`=LOOKUP("k",A1:C4,2)`, number(2)},
		{`=LOOKUP("k",A1:C4,1)`, text("k")},
		{`=LOOKUP("k",A1:C4,3)`, badDiv},
		{`=LOOKUP("k",A3:C4,3)`, number(7)},
		{`=LOOKUP("k",C4:A3,3)`, number(7)},
		{`=LOOKUP(D1,A1:C4,3)`, text("three")},
		{`=LOOKUP(40,A1:C4,1)`, badNone},
		{`=LOOKUP("k",A1:D4,4)`, blank},
		{`=LOOKUP("k",A1:C4,"2")`, number(2)},
		{`=LOOKUP("k",A1:C4,0)`, badRef},
		{`=LOOKUP("k",A1:C4,4)`, badRef},
		{`=LOOKUP("k",A1:C4,-1)`, badRef},
		{`=LOOKUP("k",A1:C4,` + greatest + `)`, badRef},
		{`=LOOKUP("none",A1:C4,4)`, badRef},
		{`=LOOKUP("none",A1:C4,1)`, badNone},
		{`=LOOKUP("none",A1:C4,"x")`, badValue},
		{`=LOOKUP(A1,A1:C4,9)`, badNone},
	})
}

func TestE5If(t *testing.T) {
	wantRows(t, table(), []row{
		{`=COUNTIF(A1:A4,"k")`, number(2)},
		{`=COUNTIF(A1:C4,"k")`, number(2)},
		{`=COUNTIF(A1:C4,0)`, number(1)},
		{`=COUNTIF(A1:C4,D1)`, number(1)},
		{`=COUNTIF(A1:D4,D1)`, number(5)},
		{`=COUNTIF(A1:D4,FALSE)`, number(4)},
		{`=COUNTIF(A1:D4,"")`, number(4)},
		{`=COUNTIF(A1:C4,TRUE)`, number(1)},
		{`=COUNTIF(A1:C4,"none")`, number(0)},
		{`=COUNTIF(A1:C4,"#DIV!")`, number(0)},
		{`=COUNTIF(A1:C4,C2)`, badDiv},
		{`=SUMIF(A1:A4,"k",B1:B4)`, number(42)},
		{`=SUMIF(A4:A1,"k",B1:B4)`, number(42)},
		{`=SUMIF(A1:A4,0,B1:B4)`, number(0)},
		{`=SUMIF(A1:A4,"none",C1:C4)`, number(0)},
		{`=SUMIF(A1:A4,"k",D1:D4)`, number(0)},
		{`=SUMIF(A1:B2,1,B3:C4)`, number(0)},
		{`=SUMIF(A1:B2,2,B3:C4)`, number(7)},
		{`=SUMIF(A1:B2,"k",B3:C4)`, number(40)},
		{`=SUMIF(D1:D3,0,B2:B4)`, number(42)},
		{`=SUMIF(A1:A4,"k",A1:A4)`, number(0)},
		{`=SUMIF(A1:A4,"k",B1:B3)`, badValue},
		{`=SUMIF(A1:A4,"k",B1:C4)`, badValue},
		{`=SUMIF(A1:A4,"k",A1:D1)`, badValue},
		{`=SUMIF(A1:B4,"k",A1:D2)`, badValue},
		{`=SUMIF(A1:A4,C2,B1:B3)`, badDiv},
	})
}

// TestE5SumIfBad: what is bad in the box that is added up is the answer, if it stands where it is asked for, as of SUM.
func TestE5SumIfBad(t *testing.T) {
	wantRows(t, table(), []row{
		{`=SUMIF(A1:A4,"k",C1:C4)`, badDiv},
		{`=SUMIF(A1:A4,0,C1:C4)`, number(0)},
	})
	l := []api.Shown{
		shown("A1", number(1)), shown("A2", number(1)), shown("A3", number(1)),
		shown("B1", number(math.MaxInt)), shown("B2", number(1)), shown("B3", number(-1)),
		shown("C1", number(math.MaxInt)), shown("C2", number(1)), shown("C3", badRef),
	}
	wantRows(t, l, []row{
		{`=SUMIF(A1:A3,1,B1:B3)`, badNum},
		{`=SUMIF(A1:A3,1,C1:C3)`, badRef},
	})
}

// TestE5NoBox: what is no box is BadValue ahead of anything else, a ref among it.
func TestE5NoBox(t *testing.T) {
	for _, call := range []string{
		"ROWS(%s)", "COLS(%s)", "INDEX(%s,C2,9)", "INDEX(%s,1,C2)", "INDEX(%s,9,9)", "MATCH(C2,%s)", "MATCH(1,%s)", "LOOKUP(C2,%s,1)",
		"LOOKUP(1,%s,C2)", "LOOKUP(1,%s,9)", "COUNTIF(%s,C2)", "COUNTIF(%s,1)", "SUMIF(%s,C2,A1:A2)", "SUMIF(A1:A2,C2,%s)", "SUMIF(%s,1,1)",
	} {
		for _, arg := range []string{"A1", "1", `"A1:B2"`, "C2", "#REF!", "D1", "IF(TRUE,A1:B2)"} {
			wantRows(t, table(), []row{{"=" + fmt.Sprintf(call, arg), badValue}})
		}
	}
}
