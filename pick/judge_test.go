package pick_test

import (
	"fmt"
	"math/big"
	"math/rand/v2"
	"slices"
	"testing"

	"sccsettle/api"
	"sccsettle/pick"
	"sccsettle/plain"
)

// words of values, as chapter 1 orders them, written down: the judge knows values by their places here alone.
func words() []string {
	return []string{
		"_", "-9223372036854775808", "-9223372036854775807", "-10", "-9", "0", "1", "9", "10", "9223372036854775806", "9223372036854775807",
		"'", "'0", "'10", "'9", "'A", "'a", "'aa", "'\xff", "F", "T", "#1", "#2", "#3", "#4", "#5", "#6",
	}
}

func rising() (l []api.Value) {
	for _, word := range words() {
		l = append(l, val(word))
	}
	return l
}

// Places where kinds begin.
const (
	numbersAt = 1
	zeroAt    = 5
	textsAt   = 11
	truthsAt  = 19
	badAt     = 21
)

// judge has a table as the places of its values.
type judge struct {
	places [][]int
	wide   int
}

// beside is the place of what a blank is beside another value; others stay.
func beside(place, other int) int {
	switch {
	case place != 0 || other == 0:
		return place
	case other < textsAt:
		return zeroAt
	case other < truthsAt:
		return textsAt
	}
	return truthsAt
}

func isMet(place, op, other int) bool {
	if place >= badAt || other >= badAt {
		return false
	}
	a, b := beside(place, other), beside(other, place)
	return []bool{a == b, a != b, a < b, a <= b, a > b, a >= b}[op-1]
}

// wanted is a want by the place of its value.
type wanted struct{ col, op, place int }

// picked has the rows that meet at least so many.
func (j judge) picked(l []wanted, atLeast int) (numbers []int) {
	for i, row := range j.places {
		met := 0
		for _, w := range l {
			if isMet(row[w.col], w.op, w.place) {
				met++
			}
		}
		if met >= atLeast {
			numbers = append(numbers, i)
		}
	}
	return numbers
}

// sum reckons without bounds, and looks at the bounds behind each number.
func (j judge) sum(numbers []int, col int) api.Value {
	all, total, beyond := rising(), new(big.Int), false
	for _, i := range numbers {
		if j.places[i][col] >= badAt {
			return all[j.places[i][col]]
		}
	}
	for _, i := range numbers {
		if place := j.places[i][col]; numbersAt <= place && place < textsAt {
			total.Add(total, big.NewInt(int64(all[place].Num)))
			beyond = beyond || !total.IsInt64()
		}
	}
	if beyond {
		return val("#5")
	}
	return val(total.String())
}

// among has those of some rows that have a place in a column.
func (j judge) among(numbers []int, col, place int) (l []int) {
	for _, i := range numbers {
		if j.places[i][col] == place {
			l = append(l, i)
		}
	}
	return l
}

func (j judge) all() (l []int) {
	for i := range j.places {
		l = append(l, i)
	}
	return l
}

// groups goes through all places of each column, one within the other.
func (j judge) groups(numbers []int, key []api.Value, by []int, sum int) (l []api.Group) {
	if len(numbers) == 0 {
		return nil
	}
	if len(by) == 0 {
		return []api.Group{{Key: key, Count: len(numbers), Sum: j.sum(numbers, sum)}}
	}
	for place, v := range rising() {
		l = append(l, j.groups(j.among(numbers, by[0], place), append(slices.Clone(key), v), by[1:], sum)...)
	}
	return l
}

// placesIn has the places that a column has.
func (j judge) placesIn(col int) (l []int) {
	for place := range words() {
		if len(j.among(j.all(), col, place)) > 0 {
			l = append(l, place)
		}
	}
	return l
}

func (j judge) crossed(by, over, sum int) (down, across []api.Value, sums [][]api.Value) {
	all := rising()
	for _, b := range j.placesIn(over) {
		across = append(across, all[b])
	}
	for _, a := range j.placesIn(by) {
		down = append(down, all[a])
		var line []api.Value
		for _, b := range j.placesIn(over) {
			line = append(line, j.sum(j.among(j.among(j.all(), by, a), over, b), sum))
		}
		sums = append(sums, line)
	}
	return down, across, sums
}

// wrong is what is wrong with so many columns, or wants, and with some columns.
func (j judge) wrong(many int, cols ...int) api.Errno {
	if many > 12 {
		return api.ErrFull
	}
	for _, col := range cols {
		if col < 0 || col >= j.wide {
			return api.ErrRange
		}
	}
	return api.OK
}

type drawer struct{ *rand.Rand }

// few places, so that much is alike; of numbers often, so that sums are.
func (d drawer) few() (l []int) {
	for range 1 + d.IntN(5) {
		if d.IntN(3) > 0 {
			l = append(l, numbersAt+d.IntN(textsAt-numbersAt))
		} else {
			l = append(l, d.IntN(len(words())))
		}
	}
	return l
}

func (d drawer) table(few []int) (judge, [][]api.Value) {
	all := rising()
	j := judge{wide: d.IntN(5)}
	if d.IntN(10) == 0 {
		j.wide = 12
	}
	many := d.IntN(10)
	if d.IntN(20) == 0 {
		many = 60
	}
	var rows [][]api.Value
	for range many {
		places, row := make([]int, j.wide), make([]api.Value, j.wide)
		for i := range places {
			places[i] = few[d.IntN(len(few))]
			row[i] = all[places[i]]
		}
		j.places = append(j.places, places)
		rows = append(rows, row)
	}
	if many == 0 {
		j.wide = 12
	}
	return j, rows
}

// column is seldom none.
func (d drawer) column(wide int) int {
	if wide == 0 || d.IntN(40) == 0 {
		return []int{-1, wide, wide + 1}[d.IntN(3)]
	}
	return d.IntN(wide)
}

// many is seldom more than may be.
func (d drawer) many() int {
	if d.IntN(10) == 0 {
		return 11 + d.IntN(4)
	}
	return d.IntN(5)
}

func (d drawer) columns(wide int) (cols []int) {
	for range d.many() {
		cols = append(cols, d.column(wide))
	}
	return cols
}

// wants hold against what stands in the table, mostly.
func (d drawer) wants(wide int, few []int) (l []wanted, given []api.Want) {
	for range d.many() {
		w := wanted{d.column(wide), 1 + d.IntN(6), few[d.IntN(len(few))]}
		if d.IntN(4) == 0 {
			w.place = d.IntN(len(words()))
		}
		l = append(l, w)
		given = append(given, api.Want{Col: w.col, Op: w.op, Value: rising()[w.place]})
	}
	return l, given
}

func colsOf(l []wanted) (cols []int) {
	for _, w := range l {
		cols = append(cols, w.col)
	}
	return cols
}

// TestK1Judged holds what is picked, of drawn tables, against the judge.
func TestK1Judged(t *testing.T) {
	d := drawer{rand.New(rand.NewPCG(13, 1))}
	told := map[string]int{}
	for range 20000 {
		few := d.few()
		j, rows := d.table(few)
		l, given := d.wants(j.wide, few)
		wrong := j.wrong(len(l), colsOf(l)...)
		var all, one []int
		if wrong == api.OK {
			all, one = j.picked(l, len(l)), j.picked(l, 1)
		}
		what := fmt.Sprint(rows, " by ", given)
		if got, err := pick.Pick(rows, given); plain.Told(err) != wrong || !slices.Equal(got, all) {
			t.Fatalf("Pick of %s: %v, %v; want %v, %v", what, got, err, all, wrong)
		}
		if got, err := pick.Any(rows, given); plain.Told(err) != wrong || !slices.Equal(got, one) {
			t.Fatalf("Any of %s: %v, %v; want %v, %v", what, got, err, one, wrong)
		}
		told[fmt.Sprint(wrong, " ", len(all) > 0, len(one) > len(all), len(one) < len(rows))]++
	}
	for _, word := range []string{"OK true true true", "OK true false true", "OK false true true", "OK true true false", "ErrRange false false true", "ErrFull false false true"} {
		if told[word] < 300 {
			t.Errorf("%s was told only %d times: %v", word, told[word], told)
		}
	}
}

// TestK2Judged holds groups and crosses, of drawn tables, against the judge.
func TestK2Judged(t *testing.T) {
	d := drawer{rand.New(rand.NewPCG(13, 2))}
	told := map[string]int{}
	for range 6000 {
		j, rows := d.table(d.few())
		by, over, sum := d.columns(j.wide), d.column(j.wide), d.column(j.wide)
		wrong := j.wrong(len(by), append([]int{sum}, by...)...)
		var want []api.Group
		if wrong == api.OK {
			want = j.groups(j.all(), nil, by, sum)
		}
		got, err := pick.Group(rows, by, sum)
		if plain.Told(err) != wrong || !same(got, want) {
			t.Fatalf("Group of %v by %v, %d: %v, %v; want %v, %v", rows, by, sum, got, err, want, wrong)
		}
		for _, g := range got {
			told[fmt.Sprint("sum ", g.Count > 1, g.Sum.Kind, g.Sum == val("#5"))]++
		}
		told[fmt.Sprint(wrong, " ", len(got) > 1)]++
		first := d.column(j.wide)
		wrong = j.wrong(0, first, over, sum)
		holdCross(t, j, rows, []int{first, over, sum}, wrong)
		told[fmt.Sprint("Cross ", wrong)]++
	}
	for _, word := range []string{"OK true", "OK false", "ErrRange false", "ErrFull false", "Cross OK", "Cross ErrRange", "sum true 1 false", "sum false 1 false", "sum true 4 true", "sum true 4 false"} {
		if told[word] < 300 {
			t.Errorf("%s was told only %d times: %v", word, told[word], told)
		}
	}
}

func holdCross(t *testing.T, j judge, rows [][]api.Value, cols []int, wrong api.Errno) {
	t.Helper()
	var down, across []api.Value
	var sums [][]api.Value
	if wrong == api.OK {
		down, across, sums = j.crossed(cols[0], cols[1], cols[2])
	}
	a, b, c, err := pick.Cross(rows, cols[0], cols[1], cols[2])
	if plain.Told(err) != wrong || !slices.Equal(a, down) || !slices.Equal(b, across) || !slices.EqualFunc(c, sums, slices.Equal) {
		t.Fatalf("Cross of %v by %v: %v, %v, %v, %v; want %v, %v, %v, %v", rows, cols, a, b, c, err, down, across, sums, wrong)
	}
}
