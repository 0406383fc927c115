package value

import (
	"cmp"
	"math"
	"strings"

	"sccsettle/api"
)

// Two does what an operator says.
func Two(op int, a, b api.Value) api.Value {
	switch op {
	case api.Add:
		return ofNumbers(a, b, add)
	case api.Sub:
		return ofNumbers(a, b, sub)
	case api.Mul:
		return ofNumbers(a, b, mul)
	case api.Div:
		return ofNumbers(a, b, div)
	case api.Cat:
		return cat(a, b)
	case api.Equal, api.Unlike, api.Less, api.Most, api.More, api.Least:
		return hold(op, a, b)
	}
	return bad(api.BadName)
}

// Neg is less a number.
func Neg(v api.Value) api.Value { return ofNumbers(number(0), v, sub) }

// Mod is what is left.
func Mod(a, b api.Value) api.Value { return ofNumbers(a, b, mod) }

// Compare holds two values against each other.
func Compare(a, b api.Value) int {
	// The numbers of the kinds rise as the kinds stand.
	if c := cmp.Compare(a.Kind, b.Kind); c != 0 {
		return c
	}
	if a.Kind == api.Text {
		return strings.Compare(a.Text, b.Text)
	}
	return cmp.Compare(a.Num, b.Num)
}

// ofNumbers works on the Numbers of both; the first that is bad is the answer.
func ofNumbers(a, b api.Value, work func(x, y int) api.Value) api.Value {
	x := Number(a)
	if x.Kind == api.Bad {
		return x
	}
	y := Number(b)
	if y.Kind == api.Bad {
		return y
	}
	return work(x.Num, y.Num)
}

func add(x, y int) api.Value {
	sum := x + y
	// A sum that wrapped round lies on the wrong side of x.
	if (sum < x) != (y < 0) {
		return bad(api.BadNum)
	}
	return number(sum)
}

func sub(x, y int) api.Value {
	rest := x - y
	if (rest > x) != (y < 0) {
		return bad(api.BadNum)
	}
	return number(rest)
}

func mul(x, y int) api.Value {
	if x == 0 {
		return number(0)
	}
	product := x * y
	// The quotient gives away every product that wrapped round, but for -1 times the least number, which is itself again.
	if product/x != y || x == -1 && y == math.MinInt {
		return bad(api.BadNum)
	}
	return number(product)
}

func div(x, y int) api.Value {
	if y == 0 {
		return bad(api.BadDiv)
	}
	if x == math.MinInt && y == -1 {
		return bad(api.BadNum)
	}
	return number(x / y)
}

func mod(x, y int) api.Value {
	if y == 0 {
		return bad(api.BadDiv)
	}
	rest := x % y
	// Go's rest has x's sign, and y's is asked for.
	if rest != 0 && (rest < 0) != (y < 0) {
		rest += y
	}
	return number(rest)
}

func cat(a, b api.Value) api.Value {
	if v, ok := firstBad(a, b); ok {
		return v
	}
	both := Show(a) + Show(b)
	if len(both) > api.MaxText {
		return bad(api.BadValue)
	}
	return text(both)
}

func hold(op int, a, b api.Value) api.Value {
	if v, ok := firstBad(a, b); ok {
		return v
	}
	c := Compare(blankAs(b.Kind, a), blankAs(a.Kind, b))
	switch op {
	case api.Equal:
		return truth(c == 0)
	case api.Unlike:
		return truth(c != 0)
	case api.Less:
		return truth(c < 0)
	case api.Most:
		return truth(c <= 0)
	case api.More:
		return truth(c > 0)
	}
	return truth(c >= 0)
}

// blankAs makes what is blank 0, an empty text or false: each is its kind alone, with nothing in the other fields.
func blankAs(kind int, v api.Value) api.Value {
	if v.Kind == api.Blank {
		return api.Value{Kind: kind}
	}
	return v
}

func firstBad(a, b api.Value) (api.Value, bool) {
	if a.Kind == api.Bad {
		return a, true
	}
	if b.Kind == api.Bad {
		return b, true
	}
	return api.Value{}, false
}
