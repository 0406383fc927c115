package format_test

import (
	"fmt"
	"math"
	"math/big"
	"math/rand/v2"
	"regexp"
	"strings"
	"testing"

	"sccsettle/api"
	"sccsettle/format"
	"sccsettle/plain"
)

// judge reads codes by a mask, and reckons without bounds.
type judge struct{ mask *regexp.Regexp }

func newJudge() judge {
	return judge{regexp.MustCompile(`^(?:"([^"]*)")?(#,)?(0+)(?:\.(0{1,6}))?(?:(%)|"([^"]*)")?$`)}
}

// parts of a code; nil, if it is none.
func (j judge) parts(code string) []string {
	if len(code) > 40 {
		return nil
	}
	return j.mask.FindStringSubmatch(code)
}

// shown puts the number together from what is left of it, three by three.
func (j judge) shown(n int, parts []string) string {
	ten := new(big.Int).Exp(big.NewInt(10), big.NewInt(int64(len(parts[4]))), nil)
	sign := big.NewInt(int64(n)).Sign()
	whole, rest := new(big.Int).QuoRem(new(big.Int).Abs(big.NewInt(int64(n))), ten, new(big.Int))
	text := fmt.Sprintf("%0*s", len(parts[3]), whole)
	if parts[2] != "" {
		text = threes(text)
	}
	if parts[4] != "" {
		text += fmt.Sprintf(".%0*s", len(parts[4]), rest)
	}
	return map[bool]string{true: "-"}[sign < 0] + parts[1] + text + parts[5] + parts[6]
}

func threes(digits string) string {
	if len(digits) <= 3 {
		return digits
	}
	return threes(digits[:len(digits)-3]) + "," + digits[len(digits)-3:]
}

func numbersAtEdges() []int {
	l := []int{0, math.MaxInt, math.MinInt, math.MinInt + 1}
	for n := 1; n < math.MaxInt/10; n *= 10 {
		l = append(l, n, -n, n-1, 1-n, 7*n, -7*n)
	}
	return l
}

// holdCode asks Check and Show of a code, and tells whether it is one.
func (j judge) holdCode(t *testing.T, code string, n int) bool {
	t.Helper()
	parts := j.parts(code)
	wrong, want := api.ErrSyntax, ""
	if parts != nil {
		wrong, want = api.OK, j.shown(n, parts)
	}
	if err := format.Check(code); plain.Told(err) != wrong {
		t.Fatalf("Check of %q: %v; want %v", code, err, wrong)
	}
	if got, err := format.Show(number(n), code); got != want || plain.Told(err) != wrong {
		t.Fatalf("Show of %d by %q: %q, %v; want %q, %v", n, code, got, err, want, wrong)
	}
	return parts != nil
}

// TestM1AllShort goes through all codes of a few bytes, of those that mean something and one that does not.
func TestM1AllShort(t *testing.T) {
	const bytes, long = "\"#,0.%x", 7
	j, good := newJudge(), 0
	var longer func(code string)
	longer = func(code string) {
		if j.holdCode(t, code, -1234567) {
			good++
		}
		for i := 0; i < len(bytes) && len(code) < long; i++ {
			longer(code + bytes[i:i+1])
		}
	}
	longer("")
	if good < 1000 {
		t.Errorf("only %d codes were some", good)
	}
}

type drawer struct{ *rand.Rand }

func (d drawer) one(l ...string) string { return l[d.IntN(len(l))] }

func (d drawer) quoted() string {
	return `"` + strings.Repeat(d.one("", "$", " kg", "0", "\xff", "\u20ac", "-", "%"), 1+d.IntN(4)) + `"`
}

// code is one, mostly, and sometimes too long.
func (d drawer) code() string {
	code := d.one("", "", d.quoted()) + d.one("", "#,") + strings.Repeat("0", 1+d.IntN(12)+d.IntN(4)/3*d.IntN(30))
	if d.IntN(2) == 0 {
		code += "." + strings.Repeat("0", 1+d.IntN(6))
	}
	return code + d.one("", "%", d.quoted())
}

// spoilt has a byte more, less, or another one.
func (d drawer) spoilt(code string) string {
	at := d.IntN(len(code))
	return code[:at] + d.one("", "\"", "#", ",", "0", ".", "%", " ", "1", "-", "\x00") + code[at+d.IntN(2):]
}

func (d drawer) number(edges []int) int {
	if d.IntN(2) == 0 {
		return edges[d.IntN(len(edges))]
	}
	return int(d.Uint64()) >> d.IntN(64)
}

// TestM1Judged holds drawn codes and numbers against the judge.
func TestM1Judged(t *testing.T) {
	d, j := drawer{rand.New(rand.NewPCG(14, 1))}, newJudge()
	edges, told := numbersAtEdges(), map[string]int{}
	for range 60000 {
		code := d.code()
		if d.IntN(3) == 0 {
			code = d.spoilt(code)
		}
		told[fmt.Sprint(j.holdCode(t, code, d.number(edges)), " ", len(code) > 40)]++
	}
	for _, word := range []string{"true false", "false false", "false true"} {
		if told[word] < 1000 {
			t.Errorf("%s was told only %d times: %v", word, told[word], told)
		}
	}
}

// TestM2Judged holds what is cut and filled up against fmt's own filling.
func TestM2Judged(t *testing.T) {
	for long := range 12 {
		text := "abcdefghijkl"[:long]
		for wide := range 16 {
			left := fmt.Sprintf("%-*.*s", wide, wide, text)
			right := fmt.Sprintf("%*.*s", wide, wide, text)
			// As many ahead as make the rest at most one blank more.
			mid := fmt.Sprintf("%-*s", wide, fmt.Sprintf("%*.*s", (wide+min(long, wide))/2, wide, text))
			for side, want := range []string{left, mid, right} {
				if got, err := format.Wide(text, wide, side); got != want || err != nil {
					t.Errorf("Wide of %q, %d, %d: %q, %v; want %q", text, wide, side, got, err, want)
				}
			}
		}
	}
}
