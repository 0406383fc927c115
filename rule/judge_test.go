package rule_test

import (
	"math/rand/v2"
	"slices"
	"strconv"
	"strings"
	"testing"

	"sccsettle/api"
	"sccsettle/rule"
	"sccsettle/settle"
	"sccsettle/value"
)

// keeps judges a value by its kind, and by the text that it is shown as, alone.
func keeps(v api.Value, r api.Rule) bool {
	text := value.Show(v)
	if v.Kind == api.Blank || v.Kind == api.Bad {
		return v.Kind == api.Blank
	}
	switch r.Kind {
	case api.Between:
		n, err := strconv.Atoi(text)
		return v.Kind == api.Number && err == nil && !(n < r.Low || n > r.High)
	case api.OneOf:
		return strings.Contains("|"+strings.Join(r.Texts, "|")+"|", "|"+text+"|") && len(r.Texts) > 0
	}
	return !(len(text) > r.High)
}

// has walks a box cell by cell.
func has(b api.Box, c api.Cell) bool {
	for row := b.From.Row; row <= b.To.Row; row++ {
		for col := b.From.Col; col <= b.To.Col; col++ {
			if c == (api.Cell{Col: col, Row: row}) {
				return true
			}
		}
	}
	return false
}

// first is the number of the first rule that a cell with a value breaks, or -1.
func first(s api.Shown, rules []api.Rule) int {
	for i, r := range rules {
		if has(r.Box, s.Cell) && !keeps(s.Value, r) {
			return i
		}
	}
	return -1
}

// drawer draws sheets of few cells, and rules for some of these.
type drawer struct{ *rand.Rand }

func (d drawer) of(l ...string) string { return l[d.IntN(len(l))] }

func (d drawer) cell() string { return d.of("A", "B", "C") + d.of("1", "2", "3") }

func (d drawer) text() string {
	a, b := d.cell(), d.cell()
	switch d.IntN(8) {
	case 0:
		return "=" + a + d.of("+", "-", "*", "/", "&", "<") + b
	case 1:
		return "=MIN(" + a + "+1," + d.of("3", "12", b) + ")"
	case 2:
		return "=" + a
	case 3:
		return "=" + d.of("SUM", "COUNT", "MAX", "CAT") + "(" + a + ":" + b + ")"
	}
	return d.of("1", "2", "-3", "12", "a", "ab", "abc", "TRUE", "FALSE", "#DIV!", `=""`, `="1"`, "007", "=NOT("+a+")")
}

func (d drawer) sheet() (l []api.Filled) {
	often := 1 + d.IntN(6)
	for row := 1; row <= 3; row++ {
		for col := 1; col <= 3; col++ {
			if text := d.text(); d.IntN(6) < often {
				l = append(l, api.Filled{Cell: api.Cell{Col: col, Row: row}, Text: text})
			}
		}
	}
	return l
}

func (d drawer) box() api.Box {
	from := at(d.cell())
	return api.Box{From: from, To: api.Cell{Col: from.Col + d.IntN(3), Row: from.Row + d.IntN(3)}}
}

func (d drawer) rule() api.Rule {
	r := api.Rule{Box: d.box(), Kind: 1 + d.IntN(3), Low: d.IntN(6) - 4, High: d.IntN(8)}
	for range d.IntN(7) {
		r.Texts = append(r.Texts, d.of("1", "2", "3", "-3", "12", "a", "ab", "", "TRUE", "FALSE", "#DIV!", "007"))
	}
	return r
}

func (d drawer) rules() (l []api.Rule) {
	for range d.IntN(5) {
		l = append(l, d.rule())
	}
	return l
}

// holdRules asks Broken, and First of all cells at which a box may lie.
func holdRules(t *testing.T, l []api.Filled, rules []api.Rule) (broken, kept int) {
	t.Helper()
	all, err := settle.All(l)
	if err != nil {
		t.Fatalf("All of %s: %v", listed(l), err)
	}
	var cells []api.Cell
	for _, s := range all {
		if first(s, rules) >= 0 {
			cells = append(cells, s.Cell)
		}
	}
	wantBroken(t, l, rules, namedAll(cells))
	for row := 1; row <= 5; row++ {
		for col := 1; col <= 5; col++ {
			s := api.Shown{Cell: api.Cell{Col: col, Row: row}}
			if i := slices.IndexFunc(all, func(a api.Shown) bool { return a.Cell == s.Cell }); i >= 0 {
				s = all[i]
			}
			if n := first(s, rules); n >= 0 {
				wantFirst(t, l, rules, named(s.Cell), n)
			} else {
				refuseFirst(t, l, rules, s.Cell, api.ErrNone)
			}
		}
	}
	return len(cells), len(all) - len(cells)
}

// TestU1Judged holds drawn sheets and rules against the judge.
func TestU1Judged(t *testing.T) {
	d := drawer{rand.New(rand.NewPCG(20, 1))}
	broken, kept := 0, 0
	for range 4000 {
		b, k := holdRules(t, d.sheet(), d.rules())
		broken, kept = broken+b, kept+k
		if t.Failed() {
			return
		}
	}
	if min(broken, kept) < 4000 {
		t.Errorf("seldom told: broken %d, kept %d", broken, kept)
	}
}

// TestU1JudgedFaults: of drawn rules of which some are wrong the first one that is wrong counts.
func TestU1JudgedFaults(t *testing.T) {
	d := drawer{rand.New(rand.NewPCG(20, 2))}
	seldom := []int{0, 0, 0}
	for range 4000 {
		var rules []api.Rule
		want := api.OK
		for range d.IntN(api.MaxRules + 2) {
			r, fault := d.spoilt(d.rule())
			if want == api.OK {
				want = fault
			}
			rules = append(rules, r)
		}
		if len(rules) > api.MaxRules {
			want = api.ErrFull
		}
		if err := rule.Check(rules); (err == nil) != (want == api.OK) || err != nil && err != error(want) {
			t.Fatalf("Check of %v: %v; want %v", rules, err, want)
		}
		seldom[map[api.Errno]int{api.ErrRange: 1, api.ErrFull: 2}[want]]++
	}
	if slices.Min(seldom) < 500 {
		t.Errorf("seldom told: %v", seldom)
	}
}

// spoilt makes some rules wrong, and tells what is wrong with them then.
func (d drawer) spoilt(r api.Rule) (api.Rule, api.Errno) {
	full := d.IntN(20) == 0
	if full {
		r.Texts = append(r.Texts, slices.Repeat([]string{strings.Repeat("x", 201-d.IntN(2))}, 13-len(r.Texts))...)
	}
	switch d.IntN(30) {
	case 0:
		r.Kind = []int{0, 4, -1}[d.IntN(3)]
		return r, api.ErrRange
	case 1:
		r.Box.From, r.Box.To.Row = api.Cell{Col: r.Box.From.Col, Row: r.Box.To.Row}, r.Box.From.Row-1
		return r, api.ErrRange
	}
	if full {
		return r, api.ErrFull
	}
	return r, api.OK
}
