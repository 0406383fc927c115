package find_test

import (
	"math/rand/v2"
	"regexp"
	"slices"
	"strings"
	"testing"

	"sccsettle/api"
	"sccsettle/find"
	"sccsettle/formula"
	"sccsettle/plain"
)

// runes has a rune for each byte, so that what goes by runes goes by bytes.
func runes(text string) string {
	var b strings.Builder
	for i := range len(text) {
		b.WriteRune(rune(text[i]))
	}
	return b.String()
}

// masked is a mask as another kind of it; nil, if it is none.
func masked(mask string) *regexp.Regexp {
	expr := "(?s)^"
	for rest := mask; rest != ""; {
		one := rest[:1]
		rest = rest[1:]
		switch one {
		case "?":
			expr += "."
		case "*":
			expr += ".*"
		case "~":
			if rest == "" {
				return nil
			}
			one, rest = rest[:1], rest[1:]
			expr += regexp.QuoteMeta(runes(one))
		default:
			expr += regexp.QuoteMeta(runes(one))
		}
	}
	return regexp.MustCompile(expr + "$")
}

func holdLike(t *testing.T, text, mask string, by *regexp.Regexp) bool {
	t.Helper()
	want, wrong := false, api.ErrSyntax
	if by != nil {
		want, wrong = by.MatchString(runes(text)), api.OK
	}
	if got, err := find.Like(text, mask); got != want || plain.Told(err) != wrong {
		t.Fatalf("Like of %q, %q: %v, %v; want %v, %v", text, mask, got, err, want, wrong)
	}
	return want
}

// allOf are all texts of at most so many bytes, of those of letters.
func allOf(letters string, long int) []string {
	all := []string{""}
	for from, l := 0, 0; l < long; l++ {
		to := len(all)
		for _, text := range all[from:to] {
			for i := range len(letters) {
				all = append(all, text+letters[i:i+1])
			}
		}
		from = to
	}
	return all
}

// TestD2AllShort holds all short masks and texts against the judge.
func TestD2AllShort(t *testing.T) {
	texts := append(allOf("ab", 4), allOf("a~*?", 3)...)
	alike := 0
	for _, mask := range allOf("ab?*~", 5) {
		by := masked(mask)
		for _, text := range texts {
			if holdLike(t, text, mask, by) {
				alike++
			}
		}
	}
	if alike < 10000 {
		t.Errorf("only %d texts were of a mask", alike)
	}
}

type drawer struct{ *rand.Rand }

func (d drawer) one(l ...string) string { return l[d.IntN(len(l))] }

// joined has some of l, one behind the other.
func (d drawer) joined(most int, l ...string) string {
	var b strings.Builder
	for range d.IntN(most + 1) {
		b.WriteString(d.one(l...))
	}
	return b.String()
}

// maskOf makes a mask of a text, which is of it mostly.
func (d drawer) maskOf(text string) string {
	var b strings.Builder
	for i := range len(text) {
		one := text[i : i+1]
		b.WriteString(d.one("~"+one, "~"+one, "~"+one, "?", "*", "*?", "", one))
	}
	return b.String()
}

// TestD2Judged holds drawn masks and texts, up to the longest ones, against the judge.
func TestD2Judged(t *testing.T) {
	d := drawer{rand.New(rand.NewPCG(15, 2))}
	told := [2]int{}
	for range 20000 {
		text := d.joined(d.IntN(40)+d.IntN(8)/7*70, "a", "b", "ab", "~", "*", "?", "\n", "\xff", "\u00e9")
		mask := d.maskOf(text)
		if d.IntN(2) == 0 {
			mask = d.joined(2, "*", "~~", "?") + strings.ReplaceAll(mask, "~a", "*") + "*"
		}
		if len(text) > 200 || len(mask) > 200 {
			continue
		}
		if holdLike(t, text, mask, masked(mask)) {
			told[1]++
		} else {
			told[0]++
		}
	}
	if slices.Min(told[:]) < 3000 {
		t.Errorf("texts were of no mask, and of one, %v times", told)
	}
}

// put replaces byte by byte, as chapter 15 tells it.
func put(text, part, by string, whole bool) (next string, count int) {
	for i := 0; i < len(text); {
		end := i + len(part)
		here := end <= len(text) && text[i:end] == part
		if here && (!whole || i == 0 && end == len(text)) {
			next += by
			count++
			i = end
			continue
		}
		next += text[i : i+1]
		i++
	}
	return next, count
}

// putAll replaces in a whole sheet; found has the cells in which there was something to replace.
func putAll(l []api.Filled, part, by string, whole bool) (next []api.Filled, found []api.Cell, count int, wrong api.Errno) {
	for _, f := range l {
		text, many := put(f.Text, part, by, whole)
		if many > 0 {
			found = append(found, f.Cell)
		}
		count += many
		_, _, err := formula.Parse(text)
		switch {
		case wrong != api.OK:
		case len(text) > 200:
			wrong = api.ErrFull
		case strings.HasPrefix(text, "=") && err != nil:
			wrong = api.ErrSyntax
		case text != "":
			next = append(next, api.Filled{Cell: f.Cell, Text: text})
		}
	}
	if wrong != api.OK {
		return nil, found, 0, wrong
	}
	return next, found, count, wrong
}

// text is that of a cell: of few bytes, so that parts stand in it often, one over another one, too.
func (d drawer) text() string {
	text := d.joined(12, "a", "a", "b", "1", "\xff", "A1", "+")
	switch d.IntN(5) {
	case 0:
		text = "=" + d.joined(4, "A1+", "1-", "\"aab\"&", "-", "SUM(A1:B1)+", "(1)*") + d.one("A1", "1", "\"a\"", "B11")
	case 1:
		text = strings.Repeat(d.one("a", "ab", "aba", "1"), 40+d.IntN(27))
	}
	if text == "" {
		return "a"
	}
	return text
}

func (d drawer) sheet() (l []api.Filled) {
	for row := range 1 + d.IntN(3) {
		for col := range 1 + d.IntN(3) {
			l = append(l, api.Filled{Cell: api.Cell{Col: col + 1, Row: row + 1}, Text: d.text()})
		}
	}
	return l
}

// part of a sheet, mostly: some bytes of one of its texts, or all.
func (d drawer) part(l []api.Filled) string {
	text := l[d.IntN(len(l))].Text
	switch d.IntN(3) {
	case 0:
		return text
	case 1:
		return d.one("a", "aa", "aba", "ab", "1", "+", "A", "=", "x", "\"", "-")
	}
	from := d.IntN(len(text))
	return text[from : from+1+d.IntN(min(3, len(text)-from))]
}

// TestD1Judged holds drawn sheets against the judge.
func TestD1Judged(t *testing.T) {
	d := drawer{rand.New(rand.NewPCG(15, 1))}
	told, gone, most := map[api.Errno]int{}, 0, 0
	for range 30000 {
		l, whole := d.sheet(), d.IntN(3) == 0
		part, by := d.part(l), d.one("", "", "a", "b", "aa", "=", "=1", "A1", "2", "+", "\"", "aba", "bbbb", strings.Repeat("ab", 60))
		next, found, count, wrong := putAll(l, part, by, whole)
		got, many, err := find.Replace(l, part, by, whole)
		if !slices.Equal(got, next) || many != count || plain.Told(err) != wrong {
			t.Fatalf("Replace of %q by %q (whole %v) in %q: %q, %d, %v; want %q, %d, %v", part, by, whole, listed(l), listed(got), many, err, listed(next), count, wrong)
		}
		if cells, err := find.Find(l, part, whole); !slices.Equal(cells, found) || err != nil {
			t.Fatalf("Find of %q (whole %v) in %q: %v, %v; want %v", part, whole, listed(l), cells, err, found)
		}
		told[wrong]++
		if wrong == api.OK && len(next) < len(l) {
			gone++
		}
		most = max(most, count)
	}
	if min(told[api.OK], told[api.ErrFull], told[api.ErrSyntax], gone) < 500 || most < 60 {
		t.Errorf("told %v; cells were gone %d times, at most %d places replaced", told, gone, most)
	}
}
