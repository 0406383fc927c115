package pick_test

import (
	"fmt"
	"math"
	"reflect"
	"slices"
	"strconv"
	"strings"
	"testing"

	"sccsettle/api"
	"sccsettle/pick"
	"sccsettle/plain"
)

// val reads a value, without the program's own words for it: `_` is blank, `T` and `F` are truths, `#3` is bad, `'x` is a text, others are numbers.
func val(word string) api.Value {
	switch word[0] {
	case '_':
		return api.Value{}
	case 'T':
		return api.Value{Kind: api.Truth, Num: 1}
	case 'F':
		return api.Value{Kind: api.Truth}
	case '#':
		return api.Value{Kind: api.Bad, Num: number(word[1:])}
	case '\'':
		return api.Value{Kind: api.Text, Text: word[1:]}
	}
	return api.Value{Kind: api.Number, Num: number(word)}
}

func number(word string) int {
	n, err := strconv.Atoi(word)
	if err != nil {
		panic(word)
	}
	return n
}

// row reads values: "1 'x _".
func row(text string) (l []api.Value) {
	for _, word := range strings.Fields(text) {
		l = append(l, val(word))
	}
	return l
}

// table reads rows of values: "1 'x; 2 T". Rows of none are made of blanks: " ; ".
func table(text string) (rows [][]api.Value) {
	if text == "" {
		return nil
	}
	for _, line := range strings.Split(text, ";") {
		rows = append(rows, row(line))
	}
	return rows
}

// numbers reads them: "2 0 1".
func numbers(text string) (l []int) {
	for _, word := range strings.Fields(text) {
		l = append(l, number(word))
	}
	return l
}

// operator reads one, by how chapter 1 writes it.
func operator(word string) int {
	return map[string]int{"=": 1, "<>": 2, "<": 3, "<=": 4, ">": 5, ">=": 6}[word]
}

// wantsOf reads wants: "0 < 3, 1 = 'x".
func wantsOf(text string) (l []api.Want) {
	if text == "" {
		return nil
	}
	for _, part := range strings.Split(text, ",") {
		words := strings.Fields(part)
		l = append(l, api.Want{Col: number(words[0]), Op: operator(words[1]), Value: val(words[2])})
	}
	return l
}

// groupsOf reads groups, key, count and sum: "1 'x: 2 7; 2 'x: 1 #1".
func groupsOf(text string) (l []api.Group) {
	if text == "" {
		return nil
	}
	for _, part := range strings.Split(text, ";") {
		key, rest, _ := strings.Cut(part, ":")
		words := strings.Fields(rest)
		l = append(l, api.Group{Key: row(key), Count: number(words[0]), Sum: val(words[1])})
	}
	return l
}

// sized is a table of so many rows of so many values.
func sized(many, wide int) [][]api.Value {
	rows := make([][]api.Value, many)
	for i := range rows {
		rows[i] = make([]api.Value, wide)
	}
	return rows
}

// with is a table with a value at a place.
func with(rows [][]api.Value, row, col int, v api.Value) [][]api.Value {
	rows[row][col] = v
	return rows
}

// noValues have a number or a text that their kind does not use, or one that may not be; or are of no kind.
func noValues() []api.Value {
	return []api.Value{
		{Num: 1}, {Text: "x"}, {Kind: api.Number, Text: "x"}, {Kind: api.Text, Num: 1},
		{Kind: api.Text, Text: strings.Repeat("x", api.MaxText+1)}, {Kind: api.Truth, Num: 2}, {Kind: api.Truth, Num: -1},
		{Kind: api.Truth, Num: 1, Text: "TRUE"}, {Kind: api.Bad}, {Kind: api.Bad, Num: 7}, {Kind: api.Bad, Num: 1, Text: "x"},
		{Kind: 5}, {Kind: -1}, {Kind: math.MaxInt}, {Kind: math.MinInt},
	}
}

func many(want api.Want, n int) []api.Want { return slices.Repeat([]api.Want{want}, n) }

// refuseWants asks for an error of both calls that take wants, and for nothing beside it.
func refuseWants(t *testing.T, rows [][]api.Value, l []api.Want, want api.Errno) {
	t.Helper()
	what := fmt.Sprintf("%.90v by %.90v", rows, l)
	if got, err := pick.Pick(rows, l); len(got) != 0 || plain.Told(err) != want {
		t.Errorf("Pick of %s: %v, %v; want %v", what, got, err, want)
	}
	if got, err := pick.Any(rows, l); len(got) != 0 || plain.Told(err) != want {
		t.Errorf("Any of %s: %v, %v; want %v", what, got, err, want)
	}
}

func refuseGroup(t *testing.T, rows [][]api.Value, by []int, sum int, want api.Errno) {
	t.Helper()
	if got, err := pick.Group(rows, by, sum); len(got) != 0 || plain.Told(err) != want {
		t.Errorf("Group of %.90v by %v, %d: %v, %v; want %v", rows, by, sum, got, err, want)
	}
}

func refuseCross(t *testing.T, rows [][]api.Value, by, over, sum int, want api.Errno) {
	t.Helper()
	a, b, c, err := pick.Cross(rows, by, over, sum)
	if len(a)+len(b)+len(c) != 0 || plain.Told(err) != want {
		t.Errorf("Cross of %.90v by %d, %d, %d: %v, %v, %v, %v; want %v", rows, by, over, sum, a, b, c, err, want)
	}
}

// What is wrong with a table is told ahead of what is wrong with wants and columns.
func TestNoTables(t *testing.T) {
	hold := func(rows [][]api.Value, want api.Errno) {
		t.Helper()
		for _, l := range [][]api.Want{
			nil, wantsOf("0 = 1"), wantsOf("-1 = 1"), wantsOf("99 = 1"), many(api.Want{Op: api.Equal}, 13), many(api.Want{}, 13),
			{{Op: api.Cat}}, {{Op: api.Equal, Value: api.Value{Kind: 9}}},
		} {
			refuseWants(t, rows, l, want)
		}
		for _, by := range []string{"", "0", "-1", "99", "0 0 0 0 0 0 0 0 0 0 0 0 0", "-1 0 0 0 0 0 0 0 0 0 0 0 0"} {
			for _, sum := range []int{0, -1, 99} {
				refuseGroup(t, rows, numbers(by), sum, want)
				refuseCross(t, rows, 0, 0, sum, want)
				refuseCross(t, rows, sum, 0, 0, want)
				refuseCross(t, rows, 0, sum, 0, want)
			}
		}
	}
	none := api.Value{Kind: 5}
	for _, rows := range [][][]api.Value{
		sized(61, 0), sized(61, 1), sized(61, 13), sized(1, 13), sized(60, 13),
		append(table("1; 1 2"), sized(1, 13)...), with(sized(61, 1), 0, 0, none),
	} {
		hold(rows, api.ErrFull)
	}
	for _, rows := range [][][]api.Value{
		table("1; 1 2"), table("1 2; 1"), table(" ; 1"), append(with(sized(1, 1), 0, 0, none), sized(1, 2)...),
	} {
		hold(rows, api.ErrShape)
	}
	for _, v := range noValues() {
		hold(with(sized(1, 1), 0, 0, v), api.ErrRange)
		hold(with(sized(60, 12), 59, 11, v), api.ErrRange)
	}
}

func TestK1NoWants(t *testing.T) {
	for _, c := range []struct {
		rows  [][]api.Value
		wants []api.Want
		want  api.Errno
	}{
		{table("1 2"), wantsOf("-1 = 1"), api.ErrRange},
		{table("1 2"), wantsOf("2 = 1"), api.ErrRange},
		{table("1 2"), wantsOf("0 = 1, 1 = 1, 2 = 1"), api.ErrRange},
		{table("1 2"), []api.Want{{Col: math.MaxInt, Op: api.Equal}}, api.ErrRange},
		{table("1 2"), []api.Want{{Col: math.MinInt, Op: api.Equal}}, api.ErrRange},
		{sized(60, 12), wantsOf("12 = 1"), api.ErrRange},
		// A table of rows without values has no column; one without rows has all.
		{table(" ; "), wantsOf("0 = 1"), api.ErrRange},
		{nil, wantsOf("12 = 1"), api.ErrRange},
		{nil, wantsOf("-1 = 1"), api.ErrRange},
		{[][]api.Value{}, wantsOf("11 = 1, 12 = 1"), api.ErrRange},
		// Too many, even of those that are none.
		{table("1 2"), many(api.Want{Op: api.Equal}, 13), api.ErrFull},
		{table("1 2"), many(api.Want{Op: api.Equal}, 1000), api.ErrFull},
		{table("1 2"), many(api.Want{Col: -1}, 13), api.ErrFull},
		{table("1 2"), many(api.Want{Op: api.Equal, Value: api.Value{Kind: 9}}, 13), api.ErrFull},
		{nil, many(api.Want{Op: api.Equal}, 13), api.ErrFull},
		{table(" ; "), many(api.Want{Op: api.Equal}, 13), api.ErrFull},
	} {
		refuseWants(t, c.rows, c.wants, c.want)
	}
	good := api.Want{Op: api.Equal, Value: val("1")}
	for _, rows := range [][][]api.Value{nil, table("1"), table("2; 3")} {
		for _, op := range []int{0, -1, api.Cat, api.Add, api.Sub, api.Mul, api.Div, 12, math.MaxInt, math.MinInt} {
			refuseWants(t, rows, []api.Want{{Op: op, Value: val("1")}}, api.ErrRange)
			refuseWants(t, rows, []api.Want{good, {Op: op, Value: val("1")}}, api.ErrRange)
			refuseWants(t, rows, append(many(good, 11), api.Want{Op: op, Value: val("1")}), api.ErrRange)
		}
		for _, v := range noValues() {
			refuseWants(t, rows, []api.Want{{Op: api.Equal, Value: v}}, api.ErrRange)
			refuseWants(t, rows, []api.Want{{Op: api.Unlike, Value: v}, good}, api.ErrRange)
			refuseWants(t, rows, append(many(good, 11), api.Want{Op: api.Least, Value: v}), api.ErrRange)
		}
	}
}

// kinds has a value of each kind, with those that a blank is beside others, and texts that show as others do.
const kinds = "_; 0; 1; -1; '; 'a; '0; F; T; #1; '1; 'TRUE; 'FALSE; '#DIV!"

func TestK1One(t *testing.T) {
	for _, c := range []struct{ table, want, numbers string }{
		{"3; 1; 2; 1", "0 = 1", "1 3"},
		{"3; 1; 2; 1", "0 <> 1", "0 2"},
		{"3; 1; 2; 1", "0 < 2", "1 3"},
		{"3; 1; 2; 1", "0 <= 2", "1 2 3"},
		{"3; 1; 2; 1", "0 > 2", "0"},
		{"3; 1; 2; 1", "0 >= 2", "0 2"},
		{"3; 1; 2; 1", "0 = 4", ""},
		{"3; 1; 2; 1", "0 < 9", "0 1 2 3"},
		{"1 5; 5 1; 5 5", "1 = 5", "0 2"},
		{"1 5; 5 1; 5 5", "0 = 5", "1 2"},
		{"9223372036854775807; -9223372036854775808; 0", "0 > -9223372036854775808", "0 2"},
		{"9223372036854775807; -9223372036854775808; 0", "0 < 9223372036854775807", "1 2"},
		{"'b; 'a; 'B; 'ab; '10; '9", "0 < 'a", "2 4 5"},
		{"'b; 'a; 'B; 'ab; '10; '9", "0 >= 'ab", "0 3"},
		// What is blank is 0, an empty text, or false, as what it stands beside; what is bad meets nothing.
		{kinds, "0 = 0", "0 1"},
		{kinds, "0 = '", "0 4"},
		{kinds, "0 = F", "0 7"},
		{kinds, "0 = _", "0 1 4 7"},
		{kinds, "0 <> _", "2 3 5 6 8 10 11 12 13"},
		{kinds, "0 < _", "3"},
		{kinds, "0 > _", "2 5 6 8 10 11 12 13"},
		{kinds, "0 <= _", "0 1 3 4 7"},
		{kinds, "0 >= _", "0 1 2 4 5 6 7 8 10 11 12 13"},
		{kinds, "0 = 1", "2"},
		{kinds, "0 = '1", "10"},
		{kinds, "0 = T", "8"},
		{kinds, "0 <> 0", "2 3 4 5 6 7 8 10 11 12 13"},
		{kinds, "0 < '", "1 2 3"},
		{kinds, "0 < F", "1 2 3 4 5 6 10 11 12 13"},
		{kinds, "0 > 1", "4 5 6 7 8 10 11 12 13"},
		{kinds, "0 > 'a", "7 8"},
		{kinds, "0 >= -1", "0 1 2 3 4 5 6 7 8 10 11 12 13"},
		// What is bad is met by nothing.
		{kinds, "0 = #1", ""},
		{kinds, "0 <> #1", ""},
		{kinds, "0 < #1", ""},
		{kinds, "0 <= #6", ""},
		{kinds, "0 > #1", ""},
		{kinds, "0 >= #1", ""},
		// The last column of the widest.
		{"0 0 0 0 0 0 0 0 0 0 0 2; 0 0 0 0 0 0 0 0 0 0 0 1", "11 = 1", "1"},
	} {
		for name, call := range map[string]func([][]api.Value, []api.Want) ([]int, error){"Pick": pick.Pick, "Any": pick.Any} {
			l, err := call(table(c.table), wantsOf(c.want))
			if err != nil || !slices.Equal(l, numbers(c.numbers)) {
				t.Errorf("%s of %q by %q: %v, %v; want %s", name, c.table, c.want, l, err, c.numbers)
			}
		}
	}
}

func TestK1Many(t *testing.T) {
	for _, c := range []struct{ table, wants, all, one string }{
		{"1; 2; 3", "", "0 1 2", ""},
		{" ; ; ", "", "0 1 2", ""},
		{"", "", "", ""},
		{"", "0 = 1", "", ""},
		{"", "11 = 1, 0 <> 1", "", ""},
		{"1; 2; 3; 4", "0 > 1, 0 < 4", "1 2", "0 1 2 3"},
		{"1; 2; 3; 4", "0 < 2, 0 > 3", "", "0 3"},
		{"1; 2; 3; 4", "0 = 9, 0 = 8", "", ""},
		{"1; 2; 3; 4", "0 > 0, 0 < 9", "0 1 2 3", "0 1 2 3"},
		{"1; 2; 3; 4", "0 = 2, 0 = 2", "1", "1"},
		{"1 'a; 2 'a; 1 'b; 2 'b", "0 = 1, 1 = 'a", "0", "0 1 2"},
		{"1 'a; 2 'a; 1 'b; 2 'b", "1 = 'a, 0 = 1", "0", "0 1 2"},
		{"1 'a; 2 'a; 1 'b; 2 'b", "0 = 1, 1 = 'a, 0 = 2", "", "0 1 2 3"},
		{"1 'a; 2 'a; 1 'b; 2 'b", "0 = 2, 1 = #1", "", "1 3"},
		{"#1 1; 1 1; 1 #1", "0 = 1, 1 = 1", "1", "0 1 2"},
		{"1; 2", "0 = 9, 0 = 9, 0 = 9, 0 = 9, 0 = 9, 0 = 9, 0 = 9, 0 = 9, 0 = 9, 0 = 9, 0 = 9, 0 = 2", "", "1"},
		{"1; 2", "0 > 0, 0 > 0, 0 > 0, 0 > 0, 0 > 0, 0 > 0, 0 > 0, 0 > 0, 0 > 0, 0 > 0, 0 > 0, 0 = 2", "1", "0 1"},
	} {
		if l, err := pick.Pick(table(c.table), wantsOf(c.wants)); err != nil || !slices.Equal(l, numbers(c.all)) {
			t.Errorf("Pick of %q by %q: %v, %v; want %s", c.table, c.wants, l, err, c.all)
		}
		if l, err := pick.Any(table(c.table), wantsOf(c.wants)); err != nil || !slices.Equal(l, numbers(c.one)) {
			t.Errorf("Any of %q by %q: %v, %v; want %s", c.table, c.wants, l, err, c.one)
		}
	}
}

func TestK2NoColumns(t *testing.T) {
	twelve := strings.Repeat("0 ", 12)
	for _, c := range []struct {
		rows [][]api.Value
		by   string
		sum  int
		want api.Errno
	}{
		{table("1 2"), "-1", 0, api.ErrRange},
		{table("1 2"), "2", 0, api.ErrRange},
		{table("1 2"), "0 1 2 0", 0, api.ErrRange},
		{table("1 2"), "0", 2, api.ErrRange},
		{table("1 2"), "0", -1, api.ErrRange},
		{table("1 2"), "", 2, api.ErrRange},
		{table("1 2"), "", math.MaxInt, api.ErrRange},
		{table("1 2"), "", math.MinInt, api.ErrRange},
		{table("1 2"), fmt.Sprint(math.MaxInt), 0, api.ErrRange},
		{table("1 2"), fmt.Sprint(math.MinInt), 0, api.ErrRange},
		{table("1 2"), twelve, 2, api.ErrRange},
		{sized(60, 12), "12", 0, api.ErrRange},
		{sized(60, 12), "", 12, api.ErrRange},
		{table(" ; "), "", 0, api.ErrRange},
		{table(" ; "), "0", 0, api.ErrRange},
		{nil, "12", 0, api.ErrRange},
		{nil, "0", 12, api.ErrRange},
		{nil, "", 12, api.ErrRange},
		{nil, "", -1, api.ErrRange},
		{table("1 2"), twelve + "1", 0, api.ErrFull},
		{table("1 2"), twelve + "1", 9, api.ErrFull},
		{table("1 2"), "9 " + twelve, 0, api.ErrFull},
		{table(" ; "), twelve + "0", 0, api.ErrFull},
		{nil, twelve + "0", 0, api.ErrFull},
		{nil, twelve + twelve, -1, api.ErrFull},
	} {
		refuseGroup(t, c.rows, numbers(c.by), c.sum, c.want)
	}
	for _, rows := range [][][]api.Value{nil, {}, table("1"), table("1 2; 3 4"), table(" ; "), sized(60, 12)} {
		for _, col := range []int{-1, 12, math.MaxInt, math.MinInt} {
			refuseCross(t, rows, col, 0, 0, api.ErrRange)
			refuseCross(t, rows, 0, col, 0, api.ErrRange)
			refuseCross(t, rows, 0, 0, col, api.ErrRange)
		}
	}
	refuseCross(t, table("1 2"), 2, 0, 0, api.ErrRange)
	refuseCross(t, table("1 2"), 0, 2, 0, api.ErrRange)
	refuseCross(t, table("1 2"), 0, 1, 2, api.ErrRange)
	refuseCross(t, table(" ; "), 0, 0, 0, api.ErrRange)
}

// same holds groups against each other; an empty key and nil are the same.
func same(a, b []api.Group) bool {
	return slices.EqualFunc(a, b, func(x, y api.Group) bool {
		return slices.Equal(x.Key, y.Key) && x.Count == y.Count && x.Sum == y.Sum
	})
}

func TestK2Group(t *testing.T) {
	const top, low = "9223372036854775807", "-9223372036854775808"
	for _, c := range []struct {
		table, by string
		sum       int
		want      string
	}{
		{"", "", 0, ""},
		{"", "0 11", 11, ""},
		{"5", "0", 0, "5: 1 5"},
		{"5", "", 0, ": 1 5"},
		{"2 10; 1 20; 2 30; 1 40; 2 50", "0", 1, "1: 2 60; 2: 3 90"},
		{"2 10; 1 20; 2 30; 1 40; 2 50", "0", 0, "1: 2 2; 2: 3 6"},
		{"2 10; 1 20; 2 30; 1 40; 2 50", "", 1, ": 5 150"},
		{"2 10; 1 20; 2 30; 1 40; 2 50", "1", 0, "10: 1 2; 20: 1 1; 30: 1 2; 40: 1 1; 50: 1 2"},
		// By Key, value by value, in the order of the columns as they are told.
		{"1 2 1; 2 1 2; 1 1 4; 2 2 8; 1 2 16", "0 1", 2, "1 1: 1 4; 1 2: 2 17; 2 1: 1 2; 2 2: 1 8"},
		{"1 2 1; 2 1 2; 1 1 4; 2 2 8; 1 2 16", "1 0", 2, "1 1: 1 4; 1 2: 1 2; 2 1: 2 17; 2 2: 1 8"},
		{"1 2 1; 2 1 2; 1 1 4; 2 2 8; 1 2 16", "1 1 0 1", 2, "1 1 1 1: 1 4; 1 1 2 1: 1 2; 2 2 1 2: 2 17; 2 2 2 2: 1 8"},
		{"'a 'bc; 'ab 'c; 'a 'bc", "0 1", 0, "'a 'bc: 2 0; 'ab 'c: 1 0"},
		{"0 0 0 0 0 0 0 0 0 0 0 7; 0 0 0 0 0 0 0 0 0 0 0 7", "0 1 2 3 4 5 6 7 8 9 10 11", 11, "0 0 0 0 0 0 0 0 0 0 0 7: 2 14"},
		// Numbers by what they are, texts by their bytes, kinds ahead of both; what only looks alike is not.
		{"10; 9; -10; -9; 0; 9", "0", 0, "-10: 1 -10; -9: 1 -9; 0: 1 0; 9: 2 18; 10: 1 10"},
		{"'b; 'a; 'B; 'ab; '; '10; '9; 'a", "0", 0, "': 1 0; '10: 1 0; '9: 1 0; 'B: 1 0; 'a: 2 0; 'ab: 1 0; 'b: 1 0"},
		{"#6; #1; T; F; '; 0; _", "0", 0, "_: 1 0; 0: 1 0; ': 1 0; F: 1 0; T: 1 0; #1: 1 #1; #6: 1 #6"},
		{"1; 'TRUE; T; '1; 1", "0", 0, "1: 2 2; '1: 1 0; 'TRUE: 1 0; T: 1 0"},
		// Of a box only numbers count, neither truths nor texts of digits; the first that is bad is the answer.
		{"1 T; 1 '7; 1 _; 1 '; 1 5", "0", 1, "1: 5 5"},
		{"1 T; 1 '7", "0", 1, "1: 2 0"},
		{"1 3; 1 #2; 1 4; 1 #1; 2 8", "0", 1, "1: 4 #2; 2: 1 8"},
		{"2 #1; 1 3; 2 #4; 1 #5; 1 #3", "0", 1, "1: 3 #5; 2: 2 #1"},
		{"2 #1; 1 3; 2 #4; 1 #5; 1 #3", "", 1, ": 5 #1"},
		{"1 '#DIV!; 1 2", "0", 1, "1: 2 2"},
		// 64 bits, row by row: a sum that leaves them stays bad; so rows of one group are added up as they stood.
		{"1 " + top + "; 1 1; 1 -1", "0", 1, "1: 3 #5"},
		{"1 " + top + "; 1 -1; 1 1", "0", 1, "1: 3 " + top},
		{"1 " + top + "; 2 1; 1 -1; 1 1; 2 2", "0", 1, "1: 3 " + top + "; 2: 2 3"},
		{"2 1; 1 " + top + "; 1 1; 1 -1; 2 2", "0", 1, "1: 3 #5; 2: 2 3"},
		{"1 " + low + "; 1 -1; 1 1", "0", 1, "1: 3 #5"},
		{"1 " + low + "; 1 1; 1 -1", "0", 1, "1: 3 " + low},
		{"1 " + top + "; 1 " + low, "0", 1, "1: 2 -1"},
		// What is bad among them is told ahead of a sum that is too great.
		{"1 " + top + "; 1 1; 1 #1", "0", 1, "1: 3 #1"},
	} {
		l, err := pick.Group(table(c.table), numbers(c.by), c.sum)
		if err != nil || !same(l, groupsOf(c.want)) {
			t.Errorf("Group of %q by %q, %d: %v, %v; want %s", c.table, c.by, c.sum, l, err, c.want)
		}
	}
}

// The greatest table has as many groups as it has rows, or few great ones.
func TestK2FullTable(t *testing.T) {
	rows := sized(60, 12)
	for i := range rows {
		rows[i][0] = api.Value{Kind: api.Number, Num: -(i % 3)}
		rows[i][11] = api.Value{Kind: api.Number, Num: i}
	}
	l, err := pick.Group(rows, numbers("11 0 1 2 3 4 5 6 7 8 9 10"), 11)
	if err != nil || len(l) != 60 || l[59].Key[0].Num != 59 || len(l[59].Key) != 12 || l[59].Sum != val("59") {
		t.Errorf("Group by twelve columns: %v, %v", l, err)
	}
	l, err = pick.Group(rows, []int{0}, 11)
	if err != nil || !same(l, groupsOf("-2: 20 610; -1: 20 590; 0: 20 570")) {
		t.Errorf("Group: %v, %v", l, err)
	}
	down, across, sums, err := pick.Cross(rows, 11, 11, 11)
	if err != nil || len(down) != 60 || len(across) != 60 || len(sums) != 60 {
		t.Fatalf("Cross: %v, %v, %v, %v", down, across, sums, err)
	}
	for i := range sums {
		for j, v := range sums[i] {
			if i == j && v.Num != i || i != j && v != val("0") || len(sums[i]) != 60 {
				t.Errorf("Cross: %v at %d, %d", v, i, j)
			}
		}
	}
}

func TestK2Cross(t *testing.T) {
	for _, c := range []struct {
		table              string
		by, over, sum      int
		down, across, sums string
	}{
		{"", 0, 0, 0, "", "", ""},
		{"", 11, 0, 5, "", "", ""},
		{"5", 0, 0, 0, "5", "5", "5"},
		{"'b 'x 1; 'a 'y 2; 'b 'y 4; 'b 'x 8", 0, 1, 2, "'a 'b", "'x 'y", "0 2; 9 4"},
		{"'b 'x 1; 'a 'y 2; 'b 'y 4; 'b 'x 8", 1, 0, 2, "'x 'y", "'a 'b", "0 9; 2 4"},
		{"'b 'x 1; 'a 'y 2; 'b 'y 4; 'b 'x 8", 0, 0, 2, "'a 'b", "'a 'b", "2 0; 0 13"},
		{"'b 'x 1; 'a 'y 2; 'b 'y 4; 'b 'x 8", 1, 2, 2, "'x 'y", "1 2 4 8", "1 0 0 8; 0 2 4 0"},
		{"'b 'x 1; 'a 'y 2; 'b 'y 4; 'b 'x 8", 0, 1, 0, "'a 'b", "'x 'y", "0 0; 0 0"},
		{"1 1; 1 2; 1 3", 0, 1, 1, "1", "1 2 3", "1 2 3"},
		{"1 1; 1 2; 1 3", 1, 0, 0, "1 2 3", "1", "1; 1; 1"},
		// All kinds, rising, each once; 0 is told where none has both, and where nothing of them counts.
		{"#1 10; T 9; F 10; 'a 9; ' 10; 5 9; _ 10; T 9; #1 9", 0, 1, 1, "_ 5 ' 'a F T #1", "9 10", "0 10; 9 0; 0 10; 9 0; 0 10; 18 0; 9 10"},
		{"_ '; 0 F; ' _; F 0", 0, 1, 0, "_ 0 ' F", "_ 0 ' F", "0 0 0 0; 0 0 0 0; 0 0 0 0; 0 0 0 0"},
		// As SUM of a box has it.
		{"1 1 #3; 1 1 #2; 2 1 T; 2 1 '7; 1 2 4", 0, 1, 2, "1 2", "1 2", "#3 4; 0 0"},
		{"1 1 9223372036854775807; 2 1 -1; 1 1 1; 1 1 -1; 2 1 -9223372036854775808; 1 2 9223372036854775807", 0, 1, 2, "1 2", "1 2", "#5 9223372036854775807; #5 0"},
		{"1 1 9223372036854775807; 2 1 -1; 1 1 -1; 1 1 1; 2 1 -9223372036854775807", 0, 1, 2, "1 2", "1", "9223372036854775807; -9223372036854775808"},
		{"1 1 9223372036854775807; 1 1 1; 1 1 #6", 0, 1, 2, "1", "1", "#6"},
	} {
		down, across, sums, err := pick.Cross(table(c.table), c.by, c.over, c.sum)
		want := table(c.sums)
		if err != nil || !slices.Equal(down, row(c.down)) || !slices.Equal(across, row(c.across)) || !slices.EqualFunc(sums, want, slices.Equal) {
			t.Errorf("Cross of %q by %d, %d, %d: %v, %v, %v, %v; want %s, %s, %s", c.table, c.by, c.over, c.sum, down, across, sums, err, c.down, c.across, c.sums)
		}
	}
}

// Nothing that is handed in is written into, or handed out, and what lies behind a list's length is not looked at.
func TestFresh(t *testing.T) {
	long := table("2 'a 9; 1 'b 9; 2 'a 9; 1 'c 9; 5 5 5; 1")
	rows := long[:4]
	for i := range rows {
		rows[i] = rows[i][:2]
	}
	long[0] = append(rows[0], api.Value{Kind: 9})[:2]
	wants := append(wantsOf("0 = 2, 1 = 'b"), api.Want{Col: 99})[:2]
	cols := numbers("1 0 99 -1")
	was := fmt.Sprint(long, wants[:3], cols)
	for range 2 {
		if l, err := pick.Pick(rows, wants[:1]); err != nil || !slices.Equal(l, []int{0, 2}) {
			t.Errorf("Pick: %v, %v", l, err)
		} else {
			clear(l[:cap(l)])
		}
		if l, err := pick.Any(rows, wants); err != nil || !slices.Equal(l, []int{0, 1, 2}) {
			t.Errorf("Any: %v, %v", l, err)
		} else {
			clear(l[:cap(l)])
		}
		l, err := pick.Group(rows, cols[:2], 0)
		if err != nil || !same(l, groupsOf("'a 2: 2 4; 'b 1: 1 1; 'c 1: 1 1")) {
			t.Errorf("Group: %v, %v", l, err)
		}
		for i := range l {
			spoil(l[i].Key)
		}
		down, across, sums, err := pick.Cross(rows, 0, 0, 0)
		if err != nil || !slices.Equal(down, row("1 2")) || !slices.Equal(across, row("1 2")) {
			t.Errorf("Cross: %v, %v, %v", down, across, err)
		}
		spoil(down)
		if !slices.Equal(across, row("1 2")) {
			t.Errorf("Cross: what it is by and what over share memory")
		}
		spoil(across)
		spoil(sums[0])
		if !reflect.DeepEqual(sums[1:], table("0 4")) {
			t.Errorf("Cross: %v", sums)
		}
		spoil(sums[1])
	}
	if now := fmt.Sprint(long, wants[:3], cols); now != was || rows[0][:3][2].Kind != 9 {
		t.Errorf("what was handed in is %s; it was %s", now, was)
	}
}

// spoil writes all over a list, and behind it.
func spoil(l []api.Value) {
	for i := range l[:cap(l)] {
		l[:cap(l)][i] = api.Value{Kind: 9, Num: 9, Text: "9"}
	}
}

// Two rows may be one list.
func TestOneListTwice(t *testing.T) {
	twice := row("1 2")
	rows := [][]api.Value{twice, row("0 2"), twice}
	if l, err := pick.Pick(rows, wantsOf("0 = 1")); err != nil || !slices.Equal(l, []int{0, 2}) {
		t.Errorf("Pick: %v, %v", l, err)
	}
	if l, err := pick.Group(rows, []int{0}, 1); err != nil || !same(l, groupsOf("0: 1 2; 1: 2 4")) {
		t.Errorf("Group: %v, %v", l, err)
	}
}
