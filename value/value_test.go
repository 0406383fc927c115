package value_test

import (
	"math"
	"strconv"
	"strings"
	"testing"

	"sccsettle/api"
	"sccsettle/plain"
	"sccsettle/value"
)

func number(n int) api.Value  { return api.Value{Kind: api.Number, Num: n} }
func text(s string) api.Value { return api.Value{Kind: api.Text, Text: s} }
func bad(n int) api.Value     { return api.Value{Kind: api.Bad, Num: n} }

var (
	blank = api.Value{}
	yes   = api.Value{Kind: api.Truth, Num: 1}
	no    = api.Value{Kind: api.Truth}
)

// badShown: the texts as the chapter has them, in the order of the numbers.
var badShown = []string{"#DIV!", "#VALUE!", "#REF!", "#NAME!", "#NUM!", "#NONE!"}

// lawful: values of all kinds, with the edges of each.
func lawful() []api.Value {
	l := []api.Value{
		blank, yes, no,
		number(0), number(1), number(-1), number(math.MaxInt), number(math.MinInt),
		text(""), text("x"), text("12"), text("-0"), text("TRUE"), text("#DIV!"), text("\xff\x00"), text(strings.Repeat("y", 200)),
	}
	for n := range badShown {
		l = append(l, bad(n+1))
	}
	return l
}

// none: what is no value, each for one reason.
func none() []api.Value {
	return []api.Value{
		{Kind: -1}, {Kind: 5}, {Kind: math.MinInt}, {Kind: math.MaxInt},
		{Kind: api.Blank, Num: 1}, {Kind: api.Blank, Num: math.MinInt}, {Kind: api.Blank, Text: "x"},
		{Kind: api.Number, Num: 1, Text: "1"},
		{Kind: api.Text, Num: 1, Text: "x"}, {Kind: api.Text, Text: strings.Repeat("y", 201)},
		{Kind: api.Truth, Num: 2}, {Kind: api.Truth, Num: -1}, {Kind: api.Truth, Num: 1, Text: "TRUE"},
		{Kind: api.Bad}, {Kind: api.Bad, Num: 7}, {Kind: api.Bad, Num: -1}, {Kind: api.Bad, Num: math.MaxInt}, {Kind: api.Bad, Num: math.MinInt},
		{Kind: api.Bad, Num: 1, Text: "#DIV!"},
	}
}

func TestV1Check(t *testing.T) {
	for _, v := range lawful() {
		if err := value.Check(v); err != nil {
			t.Errorf("Check of %v: got %v, want nil", v, err)
		}
	}
	for _, v := range none() {
		if e := plain.Told(value.Check(v)); e != api.ErrRange {
			t.Errorf("Check of %v: got %v, want ErrRange", v, e)
		}
	}
}

func TestV1Show(t *testing.T) {
	for _, c := range []struct {
		v    api.Value
		want string
	}{
		{blank, ""},
		{number(0), "0"},
		{number(-12), "-12"},
		{number(math.MaxInt), "9223372036854775807"},
		{number(math.MinInt), "-9223372036854775808"},
		{text(""), ""},
		{text("007"), "007"},
		{text("a\x00\xff"), "a\x00\xff"},
		{text(strings.Repeat("y", 200)), strings.Repeat("y", 200)},
		{yes, "TRUE"},
		{no, "FALSE"},
	} {
		if got := value.Show(c.v); got != c.want {
			t.Errorf("Show of %v: got %q, want %q", c.v, got, c.want)
		}
	}
	for i, want := range badShown {
		if got := value.Show(bad(i + 1)); got != want {
			t.Errorf("Show of bad %d: got %q, want %q", i+1, got, want)
		}
	}
}

func TestV1Read(t *testing.T) {
	for _, c := range []struct {
		s    string
		want api.Value
	}{
		{"", blank},
		{"0", number(0)},
		{"-12", number(-12)},
		{"10", number(10)},
		{"9223372036854775807", number(math.MaxInt)},
		{"-9223372036854775808", number(math.MinInt)},
		{"TRUE", yes},
		{"FALSE", no},
		{strings.Repeat("y", 201), bad(api.BadValue)},
		{strings.Repeat("1", 201), bad(api.BadValue)},
		{strings.Repeat("0", 300), bad(api.BadValue)},
	} {
		if got := value.Read(c.s); got != c.want {
			t.Errorf("Read of %q: got %v, want %v", c.s, got, c.want)
		}
	}
	for i, s := range badShown {
		if got := value.Read(s); got != bad(i+1) {
			t.Errorf("Read of %q: got %v, want bad %d", s, got, i+1)
		}
	}
}

// TestV1ReadText: what is nearly something else is a text.
func TestV1ReadText(t *testing.T) {
	for _, s := range []string{
		"012", "00", "-0", "-01", "-", "--1", "+1", "1_000", "0x1", "1.0", "1e3", " 1", "1 ", "1\n", "\u0661",
		"9223372036854775808", "-9223372036854775809", "18446744073709551617",
		"true", "True", "TRUE ", " FALSE", "T",
		"#X!", "#DIV", "DIV!", "#div!", "#DIV! ", "#", "!",
		" ", "A1", "a,b", "\"", "\u00e9", "\xff", "\x00",
		strings.Repeat("y", 200), strings.Repeat("1", 200), strings.Repeat("\u00e9", 100),
	} {
		if got := value.Read(s); got != text(s) {
			t.Errorf("Read of %q: got %v, want the text", s, got)
		}
	}
}

// TestV1ReadShown: what is shown is read as it was, but for texts that look like something else.
func TestV1ReadShown(t *testing.T) {
	for _, v := range lawful() {
		if v.Kind == api.Text {
			continue
		}
		if got := value.Read(value.Show(v)); got != v {
			t.Errorf("Read of Show of %v: got %v", v, got)
		}
	}
}

func TestV2Number(t *testing.T) {
	for _, c := range []struct{ v, want api.Value }{
		{number(5), number(5)},
		{number(math.MinInt), number(math.MinInt)},
		{number(math.MaxInt), number(math.MaxInt)},
		{blank, number(0)},
		{yes, number(1)},
		{no, number(0)},
		{text("3"), number(3)},
		{text("-9223372036854775808"), number(math.MinInt)},
		{text("9223372036854775807"), number(math.MaxInt)},
		{text("9223372036854775808"), bad(api.BadValue)},
		{text("-0"), bad(api.BadValue)},
		{text("007"), bad(api.BadValue)},
		{text(" 3"), bad(api.BadValue)},
		{text("x"), bad(api.BadValue)},
		{text(""), bad(api.BadValue)},
		{text("TRUE"), bad(api.BadValue)},
		{text("#DIV!"), bad(api.BadValue)},
	} {
		if got := value.Number(c.v); got != c.want {
			t.Errorf("Number of %v: got %v, want %v", c.v, got, c.want)
		}
	}
}

func TestV2Truth(t *testing.T) {
	for _, c := range []struct{ v, want api.Value }{
		{yes, yes},
		{no, no},
		{number(0), no},
		{number(1), yes},
		{number(-7), yes},
		{number(math.MinInt), yes},
		{blank, no},
		{text("TRUE"), yes},
		{text("FALSE"), no},
		{text("true"), bad(api.BadValue)},
		{text("1"), bad(api.BadValue)},
		{text("0"), bad(api.BadValue)},
		{text(""), bad(api.BadValue)},
		{text("#NONE!"), bad(api.BadValue)},
	} {
		if got := value.Truth(c.v); got != c.want {
			t.Errorf("Truth of %v: got %v, want %v", c.v, got, c.want)
		}
	}
}

func TestV2BadStays(t *testing.T) {
	for n := api.BadDiv; n <= api.BadNone; n++ {
		for name, call := range map[string]func(api.Value) api.Value{"Number": value.Number, "Truth": value.Truth, "Neg": value.Neg} {
			if got := call(bad(n)); got != bad(n) {
				t.Errorf("%s of bad %d: got %v", name, n, got)
			}
		}
	}
}

// TestP1NoPanic: nothing is said of what is no value, but each call answers.
func TestP1NoPanic(t *testing.T) {
	all := append(lawful(), none()...)
	for _, a := range all {
		value.Show(a)
		value.Number(a)
		value.Truth(a)
		value.Neg(a)
		for _, b := range all {
			value.Mod(a, b)
			value.Compare(a, b)
			for _, op := range append(operators(), noOperators()...) {
				value.Two(op, a, b)
			}
		}
	}
}

// TestP1Lawful: of values come values alone.
func TestP1Lawful(t *testing.T) {
	want := func(what string, v api.Value) {
		if err := value.Check(v); err != nil {
			t.Errorf("%s: got %v, which is no value", what, v)
		}
	}
	for _, a := range lawful() {
		want("Read of "+strconv.Quote(value.Show(a)), value.Read(value.Show(a)))
		want("Number", value.Number(a))
		want("Truth", value.Truth(a))
		want("Neg", value.Neg(a))
		for _, b := range lawful() {
			want("Mod", value.Mod(a, b))
			for _, op := range append(operators(), noOperators()...) {
				want("Two by "+strconv.Itoa(op), value.Two(op, a, b))
			}
		}
	}
}
