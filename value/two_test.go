package value_test

import (
	"math"
	"math/big"
	"strings"
	"testing"

	"sccsettle/api"
	"sccsettle/value"
)

func operators() []int {
	return []int{api.Equal, api.Unlike, api.Less, api.Most, api.More, api.Least, api.Cat, api.Add, api.Sub, api.Mul, api.Div}
}

func noOperators() []int { return []int{0, -1, 12, 255, math.MinInt, math.MaxInt} }

// numbersAtEdges: where 64 bits, their halves and their roots end.
func numbersAtEdges() []int {
	l := []int{0, math.MaxInt, math.MinInt}
	for _, n := range []int{1, 2, 3, 7, 10, 1 << 31, 1 << 32, 3037000499, 3037000500, 1 << 62, math.MaxInt / 2, math.MaxInt / 3, math.MaxInt - 1} {
		l = append(l, n, -n)
	}
	return append(l, -math.MaxInt)
}

// fit: the number, if it has 64 bits.
func fit(n *big.Int) api.Value {
	if !n.IsInt64() {
		return bad(api.BadNum)
	}
	return number(int(n.Int64()))
}

func bigs(a, b int) (*big.Int, *big.Int) { return big.NewInt(int64(a)), big.NewInt(int64(b)) }

// floorRest: what is left of x by y, of y's sign.
func floorRest(x, y *big.Int) *big.Int {
	r := new(big.Int).Rem(x, y)
	if r.Sign()*y.Sign() < 0 {
		r.Add(r, y)
	}
	return r
}

// TestV3Numbers holds all that reckons against numbers without bounds.
func TestV3Numbers(t *testing.T) {
	for _, a := range numbersAtEdges() {
		zero, x := bigs(0, a)
		if got, want := value.Neg(number(a)), fit(new(big.Int).Sub(zero, x)); got != want {
			t.Errorf("Neg of %d: got %v, want %v", a, got, want)
		}
		for _, b := range numbersAtEdges() {
			_, y := bigs(a, b)
			wantTwo(t, api.Add, number(a), number(b), fit(new(big.Int).Add(x, y)))
			wantTwo(t, api.Sub, number(a), number(b), fit(new(big.Int).Sub(x, y)))
			wantTwo(t, api.Mul, number(a), number(b), fit(new(big.Int).Mul(x, y)))
			if b == 0 {
				continue
			}
			wantTwo(t, api.Div, number(a), number(b), fit(new(big.Int).Quo(x, y)))
			wantMod(t, number(a), number(b), fit(floorRest(x, y)))
		}
	}
}

func wantTwo(t *testing.T, op int, a, b, want api.Value) {
	t.Helper()
	if got := value.Two(op, a, b); got != want {
		t.Errorf("Two by %d of %v, %v: got %v, want %v", op, a, b, got, want)
	}
}

func wantMod(t *testing.T, a, b, want api.Value) {
	t.Helper()
	if got := value.Mod(a, b); got != want {
		t.Errorf("Mod of %v, %v: got %v, want %v", a, b, got, want)
	}
}

func TestV3Reckon(t *testing.T) {
	for _, c := range []struct {
		op         int
		a, b, want api.Value
	}{
		{api.Add, yes, text("3"), number(4)},
		{api.Add, blank, blank, number(0)},
		{api.Add, number(math.MaxInt), yes, bad(api.BadNum)},
		{api.Sub, number(math.MinInt), yes, bad(api.BadNum)},
		{api.Sub, no, number(math.MinInt), bad(api.BadNum)},
		{api.Sub, number(1), text("12"), number(-11)},
		{api.Mul, number(math.MinInt), number(-1), bad(api.BadNum)},
		{api.Mul, number(-1), number(math.MinInt), bad(api.BadNum)},
		{api.Mul, number(math.MinInt), number(1), number(math.MinInt)},
		{api.Mul, blank, number(math.MinInt), number(0)},
		{api.Mul, text("6"), text("-7"), number(-42)},
		{api.Div, number(7), number(0), bad(api.BadDiv)},
		{api.Div, number(0), number(0), bad(api.BadDiv)},
		{api.Div, number(7), blank, bad(api.BadDiv)},
		{api.Div, number(7), no, bad(api.BadDiv)},
		{api.Div, number(7), text("0"), bad(api.BadDiv)},
		{api.Div, number(7), number(2), number(3)},
		{api.Div, number(-7), number(2), number(-3)},
		{api.Div, number(7), number(-2), number(-3)},
		{api.Div, number(-7), number(-2), number(3)},
		{api.Div, number(7), number(-1), number(-7)},
		{api.Div, number(math.MinInt), number(-1), bad(api.BadNum)},
		{api.Div, number(math.MaxInt), number(-1), number(-math.MaxInt)},
		{api.Add, text("x"), number(1), bad(api.BadValue)},
		{api.Add, number(1), text(""), bad(api.BadValue)},
		{api.Add, text("x"), bad(api.BadRef), bad(api.BadValue)},
		{api.Add, bad(api.BadRef), text("x"), bad(api.BadRef)},
		{api.Div, text("x"), number(0), bad(api.BadValue)},
		{api.Div, bad(api.BadNone), number(0), bad(api.BadNone)},
	} {
		wantTwo(t, c.op, c.a, c.b, c.want)
	}
}

// TestV3FirstBad: what is bad is the answer, of two the one to the left, whatever else would be wrong.
func TestV3FirstBad(t *testing.T) {
	for _, op := range operators() {
		for n := api.BadDiv; n <= api.BadNone; n++ {
			for _, v := range []api.Value{blank, number(0), number(math.MinInt), text("7"), text(strings.Repeat("y", 200)), yes} {
				wantTwo(t, op, bad(n), v, bad(n))
			}
			for _, v := range []api.Value{blank, number(0), number(math.MinInt), text("7"), yes} {
				wantTwo(t, op, v, bad(n), bad(n))
			}
			for m := api.BadDiv; m <= api.BadNone; m++ {
				wantTwo(t, op, bad(n), bad(m), bad(n))
			}
		}
	}
	for n := api.BadDiv; n <= api.BadNone; n++ {
		wantMod(t, bad(n), number(0), bad(n))
		wantMod(t, bad(n), text("x"), bad(n))
		wantMod(t, number(1), bad(n), bad(n))
		wantMod(t, bad(n), bad(api.BadRef), bad(n))
	}
}

func TestV3Cat(t *testing.T) {
	half := strings.Repeat("y", 100)
	for _, c := range []struct{ a, b, want api.Value }{
		{blank, blank, text("")},
		{text(""), blank, text("")},
		{number(6), number(1), text("61")},
		{number(math.MinInt), yes, text("-9223372036854775808TRUE")},
		{no, text("x"), text("FALSEx")},
		{blank, number(-1), text("-1")},
		{text("TR"), text("UE"), text("TRUE")},
		{text("#DIV"), text("!"), text("#DIV!")},
		{text("\xc3"), text("\xa9"), text("\u00e9")},
		{text(half), text(half), text(half + half)},
		{text(half), text(half + "y"), bad(api.BadValue)},
		{text(half + half), blank, text(half + half)},
		{text(half + half), number(0), bad(api.BadValue)},
		{number(0), text(half + half), bad(api.BadValue)},
		{text(half + half), bad(api.BadNum), bad(api.BadNum)},
	} {
		wantTwo(t, api.Cat, c.a, c.b, c.want)
	}
}

// wantHeld asks all six operators of a pair, both ways round.
func wantHeld(t *testing.T, a, b api.Value, c int) {
	t.Helper()
	for _, x := range []struct {
		op          int
		there, back bool
	}{
		{api.Equal, c == 0, c == 0},
		{api.Unlike, c != 0, c != 0},
		{api.Less, c < 0, c > 0},
		{api.Most, c <= 0, c >= 0},
		{api.More, c > 0, c < 0},
		{api.Least, c >= 0, c <= 0},
	} {
		wantTwo(t, x.op, a, b, truthOf(x.there))
		wantTwo(t, x.op, b, a, truthOf(x.back))
	}
}

func truthOf(is bool) api.Value {
	if is {
		return yes
	}
	return no
}

func TestV3Held(t *testing.T) {
	for _, c := range []struct {
		a, b api.Value
		want int
	}{
		{number(1), number(1), 0},
		{number(-2), number(-3), 1},
		{number(math.MinInt), number(math.MaxInt), -1},
		{text("a"), text("b"), -1},
		{text("a"), text("A"), 1},
		{text("ab"), text("a"), 1},
		{text("10"), text("9"), -1},
		{no, yes, -1},
		{yes, yes, 0},
		{number(9), text("0"), -1},
		{number(1), yes, -1},
		{text("TRUE"), yes, -1},
		{text("zzz"), no, -1},
	} {
		wantHeld(t, c.a, c.b, c.want)
	}
}

// TestV3HeldBlank: what is blank is what is least said of the other's kind.
func TestV3HeldBlank(t *testing.T) {
	for _, c := range []struct {
		beside api.Value
		want   int
	}{
		{blank, 0},
		{number(0), 0},
		{number(1), -1},
		{number(-1), 1},
		{number(math.MinInt), 1},
		{text(""), 0},
		{text("\x00"), -1},
		{text("0"), -1},
		{no, 0},
		{yes, -1},
	} {
		wantHeld(t, blank, c.beside, c.want)
	}
}

func TestV3NoOperator(t *testing.T) {
	for _, op := range noOperators() {
		wantTwo(t, op, number(1), number(2), bad(api.BadName))
		wantTwo(t, op, blank, text("x"), bad(api.BadName))
		wantTwo(t, op, bad(api.BadDiv), number(2), bad(api.BadName))
		wantTwo(t, op, number(2), bad(api.BadDiv), bad(api.BadName))
	}
}

func TestV3Neg(t *testing.T) {
	for _, c := range []struct{ v, want api.Value }{
		{number(0), number(0)},
		{number(5), number(-5)},
		{number(math.MaxInt), number(-math.MaxInt)},
		{number(-math.MaxInt), number(math.MaxInt)},
		{number(math.MinInt), bad(api.BadNum)},
		{text("-9223372036854775808"), bad(api.BadNum)},
		{blank, number(0)},
		{yes, number(-1)},
		{no, number(0)},
		{text("-3"), number(3)},
		{text("x"), bad(api.BadValue)},
		{text(""), bad(api.BadValue)},
	} {
		if got := value.Neg(c.v); got != c.want {
			t.Errorf("Neg of %v: got %v, want %v", c.v, got, c.want)
		}
	}
}

func TestV3Mod(t *testing.T) {
	for _, c := range []struct{ a, b, want api.Value }{
		{number(7), number(3), number(1)},
		{number(-7), number(3), number(2)},
		{number(7), number(-3), number(-2)},
		{number(-7), number(-3), number(-1)},
		{number(6), number(-3), number(0)},
		{number(-6), number(3), number(0)},
		{number(7), number(1), number(0)},
		{number(7), number(-1), number(0)},
		{number(math.MinInt), number(-1), number(0)},
		{number(math.MinInt), number(math.MaxInt), number(math.MaxInt - 1)},
		{number(math.MaxInt), number(math.MinInt), number(-1)},
		{text("12"), text("-9223372036854775808"), number(-9223372036854775796)},
		{yes, text("3"), number(1)},
		{blank, number(3), number(0)},
		{number(7), number(0), bad(api.BadDiv)},
		{number(0), blank, bad(api.BadDiv)},
		{number(7), no, bad(api.BadDiv)},
		{text("x"), number(0), bad(api.BadValue)},
		{number(0), text("x"), bad(api.BadValue)},
	} {
		wantMod(t, c.a, c.b, c.want)
	}
}

// rising: values, each behind the one ahead of it.
func rising() []api.Value {
	l := []api.Value{
		blank,
		number(math.MinInt), number(-1), number(0), number(1), number(math.MaxInt),
		text(""), text("\x00"), text("10"), text("9"), text("A"), text("B"), text("a"), text("aa"), text("ab"), text("b"), text("\u00e9"), text("\xff"),
		no, yes,
	}
	for n := api.BadDiv; n <= api.BadNone; n++ {
		l = append(l, bad(n))
	}
	return l
}

func TestV4Compare(t *testing.T) {
	l := rising()
	for i, a := range l {
		for j, b := range l {
			want := 0
			if i < j {
				want = -1
			} else if i > j {
				want = 1
			}
			if got := value.Compare(a, b); got != want {
				t.Errorf("Compare of %v, %v: got %d, want %d", a, b, got, want)
			}
		}
	}
}
