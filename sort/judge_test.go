package sort_test

import (
	"fmt"
	"math/rand/v2"
	"slices"
	"testing"

	"sccsettle/api"
	"sccsettle/plain"
	"sccsettle/sort"
)

// rising: values as chapter 1 orders them, written down; what is drawn comes from here, so that the judge holds places against each other.
func rising() []api.Value {
	var l []api.Value
	for _, word := range []string{
		"_", "-9223372036854775808", "-10", "-9", "0", "1", "9", "10", "9223372036854775807",
		"'", "'0", "'10", "'9", "'A", "'a", "'aa", "'b", "'\xff", "F", "T", "#1", "#2", "#3", "#4", "#5", "#6",
	} {
		l = append(l, val(word))
	}
	return l
}

// judge has a table as the places of its values.
type judge struct {
	places [][]int
	wide   int
}

// ahead tells whether a row comes ahead of another one: by the first key that tells them apart, else by their numbers.
func (j judge) ahead(a, b int, keys []api.Key) bool {
	for _, key := range keys {
		x, y := j.places[a][key.Col], j.places[b][key.Col]
		if x != y {
			return (x < y) != key.Down
		}
	}
	return a < b
}

// sorted lays each row where as many are ahead of it.
func (j judge) sorted(keys []api.Key) []int {
	l := make([]int, len(j.places))
	for a := range j.places {
		at := 0
		for b := range j.places {
			if j.ahead(b, a, keys) {
				at++
			}
		}
		l[at] = a
	}
	return l
}

// distinct has the first row of all that show the same places.
func (j judge) distinct(cols []int) (l []int) {
	seen := map[string]bool{}
	for i, row := range j.places {
		word := ""
		for _, col := range cols {
			word += fmt.Sprint(row[col], " ")
		}
		if !seen[word] {
			l = append(l, i)
		}
		seen[word] = true
	}
	return l
}

// wrong is what is wrong with columns.
func (j judge) wrong(cols []int) api.Errno {
	if len(cols) > 12 {
		return api.ErrFull
	}
	for _, col := range cols {
		if col < 0 || col >= j.wide {
			return api.ErrRange
		}
	}
	return api.OK
}

type drawer struct{ *rand.Rand }

// table draws few values of all, so that many rows are alike.
func (d drawer) table() (judge, [][]api.Value) {
	all := rising()
	few := []int{d.IntN(len(all)), d.IntN(len(all)), d.IntN(len(all)), d.IntN(len(all))}
	few = few[:1+d.IntN(4)]
	j := judge{wide: d.IntN(5)}
	if d.IntN(10) == 0 {
		j.wide = 12
	}
	many := d.IntN(9)
	if d.IntN(10) == 0 {
		many = 60
	}
	var rows [][]api.Value
	for range many {
		places, row := make([]int, j.wide), make([]api.Value, j.wide)
		for i := range places {
			places[i] = few[d.IntN(len(few))]
			row[i] = all[places[i]]
		}
		j.places = append(j.places, places)
		rows = append(rows, row)
	}
	if many == 0 {
		j.wide = 12
	}
	return j, rows
}

// keys are sometimes too many, or of columns that are none.
func (d drawer) keys(wide int) (keys []api.Key) {
	many := d.IntN(5)
	if d.IntN(10) == 0 {
		many = 11 + d.IntN(4)
	}
	for range many {
		col := d.IntN(wide + 1)
		if col == wide && d.IntN(8) > 0 {
			col = 0
		} else if d.IntN(40) == 0 {
			col = -1 - d.IntN(3)
		}
		keys = append(keys, api.Key{Col: col, Down: d.IntN(2) == 0})
	}
	return keys
}

// list is the right one, or one close to it.
func (d drawer) list(right []int) []int {
	l := slices.Clone(right)
	switch d.IntN(5) {
	case 0:
		return append(l, len(l))
	case 1:
		d.Shuffle(len(l), func(i, j int) { l[i], l[j] = l[j], l[i] })
	case 2:
		if len(l) > 0 {
			l[d.IntN(len(l))] = d.IntN(len(l))
		}
	case 3:
		return l[:d.IntN(len(l)+1)]
	}
	return l
}

// TestJudged holds all three, of drawn tables, against the judge.
func TestJudged(t *testing.T) {
	d := drawer{rand.New(rand.NewPCG(12, 12))}
	told := map[string]int{}
	for range 20000 {
		j, rows := d.table()
		keys := d.keys(j.wide)
		cols := columnsOf(keys)
		wrong := j.wrong(cols)
		var right, first []int
		if wrong == api.OK {
			right, first = j.sorted(keys), j.distinct(cols)
		}
		what := fmt.Sprint(rows, " by ", keys)
		if l, err := sort.Sort(rows, keys); plain.Told(err) != wrong || !slices.Equal(l, right) {
			t.Fatalf("Sort of %s: %v, %v; want %v, %v", what, l, err, right, wrong)
		}
		if l, err := sort.Distinct(rows, cols); plain.Told(err) != wrong || !slices.Equal(l, first) {
			t.Fatalf("Distinct of %s: %v, %v; want %v, %v", what, l, err, first, wrong)
		}
		l := d.list(right)
		just := wrong == api.OK && slices.Equal(l, right)
		if is, err := sort.Sorted(rows, keys, l); plain.Told(err) != wrong || is != just {
			t.Fatalf("Sorted of %s, %v: %v, %v; want %v, %v", what, l, is, err, just, wrong)
		}
		told[fmt.Sprint(wrong, " ", just)]++
	}
	for _, word := range []string{"OK true", "OK false", "ErrRange false", "ErrFull false"} {
		if told[word] < 500 {
			t.Errorf("%s was told only %d times", word, told[word])
		}
	}
}
