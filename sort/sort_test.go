package sort_test

import (
	"fmt"
	"math"
	"slices"
	"strconv"
	"strings"
	"testing"

	"sccsettle/api"
	"sccsettle/plain"
	"sccsettle/sort"
)

// val reads a value, without the program's own words for it: `_` is blank, `T` and `F` are truths, `#3` is bad, `'x` is a text, others are numbers.
func val(word string) api.Value {
	switch word[0] {
	case '_':
		return api.Value{}
	case 'T':
		return api.Value{Kind: api.Truth, Num: 1}
	case 'F':
		return api.Value{Kind: api.Truth}
	case '#':
		return api.Value{Kind: api.Bad, Num: number(word[1:])}
	case '\'':
		return api.Value{Kind: api.Text, Text: word[1:]}
	}
	return api.Value{Kind: api.Number, Num: number(word)}
}

func number(word string) int {
	n, err := strconv.Atoi(word)
	if err != nil {
		panic(word)
	}
	return n
}

// table reads rows of values: "1 'x; 2 T". Rows of none are made of blanks: " ; ".
func table(text string) (rows [][]api.Value) {
	if text == "" {
		return nil
	}
	for _, line := range strings.Split(text, ";") {
		var row []api.Value
		for _, word := range strings.Fields(line) {
			row = append(row, val(word))
		}
		rows = append(rows, row)
	}
	return rows
}

// keysOf reads keys: "0 2v" is column 0, then column 2, the greatest first.
func keysOf(text string) (keys []api.Key) {
	for _, word := range strings.Fields(text) {
		col, down := strings.CutSuffix(word, "v")
		keys = append(keys, api.Key{Col: number(col), Down: down})
	}
	return keys
}

func columnsOf(keys []api.Key) (cols []int) {
	for _, key := range keys {
		cols = append(cols, key.Col)
	}
	return cols
}

// numbers reads them: "2 0 1".
func numbers(text string) (l []int) {
	for _, word := range strings.Fields(text) {
		l = append(l, number(word))
	}
	return l
}

// sized is a table of so many rows of so many values.
func sized(many, wide int) [][]api.Value {
	rows := make([][]api.Value, many)
	for i := range rows {
		rows[i] = make([]api.Value, wide)
	}
	return rows
}

// refuse asks for an error of all calls that take columns, and for nothing beside it.
func refuse(t *testing.T, rows [][]api.Value, keys []api.Key, want api.Errno) {
	t.Helper()
	what := fmt.Sprintf("%.90v by %v", rows, keys)
	if l, err := sort.Sort(rows, keys); len(l) != 0 || plain.Told(err) != want {
		t.Errorf("Sort of %s: %v, %v; want %v", what, l, err, want)
	}
	for _, l := range [][]int{nil, {0}, {0, 1}, {1, 0}} {
		if is, err := sort.Sorted(rows, keys, l); is || plain.Told(err) != want {
			t.Errorf("Sorted of %s, %v: %v, %v; want %v", what, l, is, err, want)
		}
	}
	if l, err := sort.Distinct(rows, columnsOf(keys)); len(l) != 0 || plain.Told(err) != want {
		t.Errorf("Distinct of %s: %v, %v; want %v", what, l, err, want)
	}
}

func TestT1Tables(t *testing.T) {
	long := strings.Repeat("x", api.MaxText)
	for _, rows := range [][][]api.Value{
		nil, {}, {nil}, {{}, nil}, table("1"), table("1 'x; _ T; #1 #6"), table(" ; ; "),
		table("F T _ ' '" + long), table(fmt.Sprint(math.MinInt, " ", math.MaxInt)),
		sized(60, 12), sized(60, 0), sized(60, 1), sized(1, 12),
	} {
		if err := sort.Check(rows); err != nil {
			t.Errorf("Check(%.90v): %v", rows, err)
		}
		if l, err := sort.Sort(rows, nil); err != nil || len(l) != len(rows) {
			t.Errorf("Sort(%.90v): %v, %v", rows, l, err)
		}
	}
}

// noValues have a number or a text that their kind does not use, or one that may not be; or are of no kind.
func noValues() []api.Value {
	return []api.Value{
		{Num: 1}, {Text: "x"}, {Kind: api.Number, Text: "x"}, {Kind: api.Text, Num: 1},
		{Kind: api.Text, Text: strings.Repeat("x", api.MaxText+1)}, {Kind: api.Truth, Num: 2}, {Kind: api.Truth, Num: -1},
		{Kind: api.Truth, Num: 1, Text: "TRUE"}, {Kind: api.Bad}, {Kind: api.Bad, Num: 7}, {Kind: api.Bad, Num: 1, Text: "x"},
		{Kind: 5}, {Kind: -1}, {Kind: math.MaxInt}, {Kind: math.MinInt},
	}
}

// with is a table with a value at a place.
func with(rows [][]api.Value, row, col int, v api.Value) [][]api.Value {
	rows[row][col] = v
	return rows
}

// What is wrong with a table is told ahead of what is wrong with columns, of which each list has one fault or another.
func TestT1NoTables(t *testing.T) {
	hold := func(rows [][]api.Value, want api.Errno) {
		t.Helper()
		if err := sort.Check(rows); plain.Told(err) != want {
			t.Errorf("Check(%.90v): %v; want %v", rows, err, want)
		}
		for _, keys := range []string{"", "0", "0v 1", "-1", "12", "99v", "0 0 0 0 0 0 0 0 0 0 0 0 0", "-1 0 0 0 0 0 0 0 0 0 0 0 0"} {
			refuse(t, rows, keysOf(keys), want)
		}
	}
	none := api.Value{Kind: 5}
	for _, rows := range [][][]api.Value{
		sized(61, 0), sized(61, 1), sized(61, 12), sized(1000, 2), sized(61, 13),
		sized(1, 13), sized(60, 13), sized(1, 1000),
		// Ahead of the shape, and of values, wherever they stand.
		append(sized(1, 1), sized(1, 13)...), append(sized(1, 13), sized(1, 1)...), append(sized(2, 1), sized(1, 13)...),
		append(table("1; 1 2; 3"), sized(1, 13)...), append(table("1; 1 2"), sized(60, 1)...),
		with(sized(61, 1), 0, 0, none), with(sized(1, 13), 0, 0, none), append(with(sized(1, 1), 0, 0, none), sized(1, 13)...),
	} {
		hold(rows, api.ErrFull)
	}
	for _, rows := range [][][]api.Value{
		table("1; 1 2"), table("1 2; 1"), table(" ; 1"), table("1; "), table("1 2; 1 2; 1"), table("1 2; 1; 1 2"),
		append(sized(59, 12), sized(1, 11)...), append(sized(1, 0), sized(59, 12)...),
		// Ahead of values.
		append(with(sized(1, 1), 0, 0, none), sized(1, 2)...), append(sized(1, 2), with(sized(1, 1), 0, 0, none)...),
	} {
		hold(rows, api.ErrShape)
	}
	for _, v := range noValues() {
		hold(with(sized(1, 1), 0, 0, v), api.ErrRange)
		hold(with(sized(60, 12), 0, 0, v), api.ErrRange)
		hold(with(sized(60, 12), 59, 11, v), api.ErrRange)
		hold(with(sized(3, 3), 1, 2, v), api.ErrRange)
	}
}

func TestT1Columns(t *testing.T) {
	twelve := strings.Repeat("0v ", 12)
	for _, c := range []struct {
		rows [][]api.Value
		keys string
		want api.Errno
	}{
		{table("1 2"), "-1", api.ErrRange},
		{table("1 2"), "2", api.ErrRange},
		{table("1 2"), "2v", api.ErrRange},
		{table("1 2"), "0 1 0 2", api.ErrRange},
		{table("1 2"), "0 -1 0 1", api.ErrRange},
		{table("1 2; 3 4"), fmt.Sprint(math.MaxInt), api.ErrRange},
		{table("1 2; 3 4"), fmt.Sprint(math.MinInt), api.ErrRange},
		{table("1 2; 3 4"), "11", api.ErrRange},
		{sized(60, 12), "12", api.ErrRange},
		{sized(60, 12), "0 1 2 3 4 5 6 7 8 9 10 12", api.ErrRange},
		// A table of rows without values has no column; one without rows has all.
		{table(" ; "), "0", api.ErrRange},
		{[][]api.Value{nil}, "0v", api.ErrRange},
		{[][]api.Value{{}}, "11", api.ErrRange},
		{nil, "12", api.ErrRange},
		{nil, "-1", api.ErrRange},
		{[][]api.Value{}, "0 11 12", api.ErrRange},
		// Too many of them, even if they are all one, or none.
		{table("1 2"), twelve + "1", api.ErrFull},
		{table("1 2"), twelve + "2", api.ErrFull},
		{table("1 2"), "-1 " + twelve, api.ErrFull},
		{table("1 2"), twelve + twelve, api.ErrFull},
		{sized(60, 12), twelve + "0", api.ErrFull},
		{table(" "), twelve + "0", api.ErrFull},
		{nil, twelve + "0", api.ErrFull},
		{nil, twelve + "99", api.ErrFull},
	} {
		refuse(t, c.rows, keysOf(c.keys), c.want)
	}
}

func TestT1HasColumn(t *testing.T) {
	for _, c := range []struct {
		rows [][]api.Value
		wide int
	}{
		{nil, 12}, {[][]api.Value{}, 12}, {table(" ; "), 0}, {table("1; 2"), 1}, {table("1 2 3"), 3}, {sized(60, 12), 12},
	} {
		for _, col := range []int{math.MinInt, -1, 0, 1, 2, 3, 4, 11, 12, 13, math.MaxInt} {
			if has := sort.HasColumn(c.rows, col); has != (col >= 0 && col < c.wide) {
				t.Errorf("HasColumn of %.90v, %d: %v", c.rows, col, has)
			}
		}
	}
}

// A table without rows has as many columns as there may be, and nothing in order.
func TestT1NoRows(t *testing.T) {
	for _, rows := range [][][]api.Value{nil, {}} {
		for _, text := range []string{"", "0", "11", "11v 0", "0 1 2 3 4 5 6 7 8 9 10 11", "0 0 0 0 0 0 0 0 0 0 0 0"} {
			keys := keysOf(text)
			if l, err := sort.Sort(rows, keys); len(l) != 0 || err != nil {
				t.Errorf("Sort of no rows by %s: %v, %v", text, l, err)
			}
			if l, err := sort.Distinct(rows, columnsOf(keys)); len(l) != 0 || err != nil {
				t.Errorf("Distinct of no rows by %s: %v, %v", text, l, err)
			}
			for _, l := range [][]int{nil, {}, {0}} {
				if is, err := sort.Sorted(rows, keys, l); is != (len(l) == 0) || err != nil {
					t.Errorf("Sorted of no rows by %s, %v: %v, %v", text, l, is, err)
				}
			}
		}
	}
}

type orderCase struct{ table, keys, want string }

func TestT1Sort(t *testing.T) {
	long := strings.Repeat("x", 199)
	for _, c := range []orderCase{
		{"1", "0", "0"},
		{"3; 1; 2", "0", "1 2 0"},
		{"3; 1; 2", "0v", "0 2 1"},
		{"3; 1; 2", "", "0 1 2"},
		{" ; ; ", "", "0 1 2"},
		// Numbers by what they are, not by their digits, nor by their differences.
		{"10; 9; -10; -9; 0", "0", "2 3 4 1 0"},
		{"9223372036854775807; -9223372036854775808; 0; -1; 1", "0", "1 3 2 4 0"},
		{"9223372036854775807; -9223372036854775808; 0; -1; 1", "0v", "0 4 2 3 1"},
		// Texts by their bytes.
		{"'b; 'a; 'B; 'ab; '; '10; '9; '\xff; '\xc3\xa4; 'z", "0", "4 5 6 2 1 3 0 9 8 7"},
		{"'b; 'a; 'B; 'ab; '; '10; '9; '\xff; '\xc3\xa4; 'z", "0v", "7 8 9 0 3 1 2 6 5 4"},
		{"'" + long + "b; '" + long + "a; '" + long, "0", "2 1 0"},
		{"T; F", "0", "1 0"},
		{"#6; #1; #5; #2; #4; #3", "0", "1 3 5 4 2 0"},
		// Kinds ahead of what stands in them.
		{"#1; T; F; 'a; '; 5; -5; _", "0", "7 6 5 4 3 2 1 0"},
		{"_; -5; 5; '; 'a; F; T; #1", "0v", "7 6 5 4 3 2 1 0"},
		{"0; _; '; F; '0; 'FALSE; '#DIV!; #1", "0", "1 0 2 6 4 5 3 7"},
		// Rows that are alike stay as they stood, also where the greatest comes first.
		{"1; 0; 1; 0; 1", "0", "1 3 0 2 4"},
		{"1; 0; 1; 0; 1", "0v", "0 2 4 1 3"},
		{"_; _; _", "0v", "0 1 2"},
		// Columns that are no keys count for nothing.
		{"1 9; 1 8; 0 7; 1 6", "0", "2 0 1 3"},
		{"1 9; 1 8; 0 7; 1 6", "1", "3 2 1 0"},
		// The first key first, then the next one; each its own way.
		{"1 9; 1 8; 0 7; 1 6", "0 1", "2 3 1 0"},
		{"1 9; 1 8; 0 7; 1 6", "0v 1", "3 1 0 2"},
		{"1 9; 1 8; 0 7; 1 6", "0 1v", "2 0 1 3"},
		{"1 9; 1 8; 0 7; 1 6", "0v 1v", "0 1 3 2"},
		{"1 9; 1 8; 0 7; 1 6", "1v 0", "0 1 2 3"},
		{"1 2 'a; 1 1 'b; 0 2 'c; 0 2 'b; 1 2 'b", "0 1 2", "3 2 1 0 4"},
		{"1 2 'a; 1 1 'b; 0 2 'c; 0 2 'b; 1 2 'b", "2v 1 0", "2 1 3 4 0"},
		{"1 2 'a; 1 1 'b; 0 2 'c; 0 2 'b; 1 2 'b", "1v", "0 2 3 4 1"},
		// A column that is a key again tells nothing more.
		{"1 5; 2 5; 1 4", "0 0v", "0 2 1"},
		{"1 5; 2 5; 1 4", "0 0v 1", "2 0 1"},
		{"1 5; 2 5; 1 4", "0v 0 0 0 0 0 0 0 0 0 0 1", "1 2 0"},
		{"0 0 0 0 0 0 0 0 0 0 0 2; 0 0 0 0 0 0 0 0 0 0 0 1", "0 1 2 3 4 5 6 7 8 9 10 11", "1 0"},
	} {
		l, err := sort.Sort(table(c.table), keysOf(c.keys))
		if err != nil || !slices.Equal(l, numbers(c.want)) {
			t.Errorf("Sort of %.90q by %q: %v, %v; want %s", c.table, c.keys, l, err, c.want)
		}
		holdSorted(t, c)
	}
}

// holdSorted asks of the list that it is just that, and of lists close to it that they are not.
func holdSorted(t *testing.T, c orderCase) {
	t.Helper()
	rows, keys, right := table(c.table), keysOf(c.keys), numbers(c.want)
	if is, err := sort.Sorted(rows, keys, right); !is || err != nil {
		t.Errorf("Sorted of %.90q by %q, %v: %v, %v", c.table, c.keys, right, is, err)
	}
	wrong := [][]int{nil, right[1:], right[:len(right)-1], append(slices.Clone(right), 0), append(slices.Clone(right), len(right)), append([]int{0}, right...)}
	for i := range right {
		for _, other := range []int{-1, right[i] + 1, right[i] - 1, len(right), math.MaxInt, math.MinInt} {
			l := slices.Clone(right)
			l[i] = other
			wrong = append(wrong, l)
		}
		if i > 0 {
			l := slices.Clone(right)
			l[i], l[i-1] = l[i-1], l[i]
			wrong = append(wrong, l)
		}
	}
	for _, l := range wrong {
		if is, err := sort.Sorted(rows, keys, l); is || err != nil {
			t.Errorf("Sorted of %.90q by %q, %v: %v, %v", c.table, c.keys, l, is, err)
		}
	}
}

func TestT1Distinct(t *testing.T) {
	for _, c := range []orderCase{
		{"1", "0", "0"},
		{"1", "", "0"},
		{"3; 1; 2", "0", "0 1 2"},
		{"3; 1; 3; 3; 2; 1", "0", "0 1 4"},
		{"3 1; 1 2; 3 3; 3 1; 1 4", "0", "0 1"},
		{"3 1; 1 2; 3 3; 3 1; 1 4", "1", "0 1 2 4"},
		{"3 1; 1 2; 3 3; 3 1; 1 4", "0 1", "0 1 2 4"},
		{"3 1; 1 2; 3 3; 3 1; 1 4", "1 0 1 1", "0 1 2 4"},
		// By no columns all are alike.
		{"3 1; 1 2; 3 3", "", "0"},
		{" ; ; ", "", "0"},
		// What only looks alike, or is as if it were, is not.
		{"_; 0; '; F; '0; 'FALSE; #1; '#DIV!; #2; 1; T; '1; 'TRUE", "0", "0 1 2 3 4 5 6 7 8 9 10 11 12"},
		{"_; _; '; '; F; F; #1; #1; 'a; 'A; 'a", "0", "0 2 4 6 8 9"},
		// None ahead, however far ahead.
		{"1; 2; 3; 4; 5; 6; 7; 1; 2; 8", "0", "0 1 2 3 4 5 6 9"},
		// Columns are not taken for each other.
		{"1 2; 2 1; 1 1; 2 2; 1 2", "0 1", "0 1 2 3"},
		{"'a 'bc; 'ab 'c; 'a 'bc", "0 1", "0 1"},
		{"0 0 0 0 0 0 0 0 0 0 0 2; 0 0 0 0 0 0 0 0 0 0 0 1; 0 0 0 0 0 0 0 0 0 0 0 2", "0 1 2 3 4 5 6 7 8 9 10 11", "0 1"},
	} {
		l, err := sort.Distinct(table(c.table), numbers(c.keys))
		if err != nil || !slices.Equal(l, numbers(c.want)) {
			t.Errorf("Distinct of %q by %q: %v, %v; want %s", c.table, c.keys, l, err, c.want)
		}
	}
}

// The greatest table, from the last row to the first.
func TestT1FullTable(t *testing.T) {
	rows := sized(60, 12)
	var back, all []int
	for i := range rows {
		rows[i][11] = api.Value{Kind: api.Number, Num: -i}
		back = append(back, 59-i)
		all = append(all, i)
	}
	keys := keysOf("0 1v 2 3v 4 5v 6 7v 8 9v 10 11")
	if l, err := sort.Sort(rows, keys); err != nil || !slices.Equal(l, back) {
		t.Errorf("Sort: %v, %v", l, err)
	}
	if is, err := sort.Sorted(rows, keys, back); err != nil || !is {
		t.Errorf("Sorted: %v, %v", is, err)
	}
	if l, err := sort.Distinct(rows, columnsOf(keys)); err != nil || !slices.Equal(l, all) {
		t.Errorf("Distinct: %v, %v", l, err)
	}
	if l, err := sort.Distinct(rows, columnsOf(keys[:11])); err != nil || !slices.Equal(l, []int{0}) {
		t.Errorf("Distinct by eleven columns: %v, %v", l, err)
	}
}

// Nothing that is handed in is written into, or handed out, and what lies behind a list's length is not looked at.
func TestFresh(t *testing.T) {
	long := table("2 'a 9; 1 'b 9; 2 'a 9; 1 'c 9; 5 5 5; 1")
	rows := long[:4]
	for i := range rows {
		rows[i] = rows[i][:2]
	}
	long[0] = append(rows[0], api.Value{Kind: 9})[:2]
	keys, cols, right := keysOf("0 1v 99 -1"), numbers("0 1 99 -1"), numbers("3 1 0 2 7 7")
	was := fmt.Sprint(long, keys, cols, right)
	for range 2 {
		l, err := sort.Sort(rows, keys[:2])
		if err != nil || !slices.Equal(l, []int{3, 1, 0, 2}) {
			t.Errorf("Sort: %v, %v", l, err)
		}
		clear(l[:cap(l)])
		if is, err := sort.Sorted(rows, keys[:2], right[:4]); err != nil || !is {
			t.Errorf("Sorted: %v, %v", is, err)
		}
		l, err = sort.Distinct(rows, cols[:2])
		if err != nil || !slices.Equal(l, []int{0, 1, 3}) {
			t.Errorf("Distinct: %v, %v", l, err)
		}
		clear(l[:cap(l)])
	}
	if now := fmt.Sprint(long, keys, cols, right); now != was || rows[0][:3][2].Kind != 9 {
		t.Errorf("what was handed in is %s; it was %s", now, was)
	}
}

// Two rows may be one list.
func TestOneListTwice(t *testing.T) {
	row := table("1 2")[0]
	rows := [][]api.Value{row, table("0 2")[0], row}
	if l, err := sort.Sort(rows, keysOf("0v 1")); err != nil || !slices.Equal(l, []int{0, 2, 1}) {
		t.Errorf("Sort: %v, %v", l, err)
	}
	if l, err := sort.Distinct(rows, []int{0}); err != nil || !slices.Equal(l, []int{0, 1}) {
		t.Errorf("Distinct: %v, %v", l, err)
	}
}
