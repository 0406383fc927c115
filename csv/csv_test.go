package csv_test

import (
	"slices"
	"strings"
	"testing"

	"sccsettle/api"
	"sccsettle/csv"
	"sccsettle/plain"
)

func alike(a, b [][]string) bool { return slices.EqualFunc(a, b, slices.Equal[[]string]) }

func wantWritten(t *testing.T, rows [][]string, want string) {
	t.Helper()
	if got, err := csv.Write(rows); got != want || err != nil {
		t.Errorf("Write of %.90q: %.90q, %v; want %.90q", rows, got, err, want)
	}
}

// refuseWrite asks for an error, and for nothing beside it.
func refuseWrite(t *testing.T, rows [][]string, want api.Errno) {
	t.Helper()
	if got, err := csv.Write(rows); got != "" || plain.Told(err) != want {
		t.Errorf("Write of %.90q: %.90q, %v; want %v", rows, got, err, want)
	}
}

func wantRead(t *testing.T, text string, want [][]string) {
	t.Helper()
	if got, at, err := csv.Read(text); !alike(got, want) || at != 0 || err != nil {
		t.Errorf("Read of %.90q: %.90q, %d, %v; want %.90q", text, got, at, err, want)
	}
}

// refuseRead asks for an error and its place, and for nothing beside them.
func refuseRead(t *testing.T, text string, place int, want api.Errno) {
	t.Helper()
	if got, at, err := csv.Read(text); len(got) != 0 || at != place || plain.Told(err) != want {
		t.Errorf("Read of %.90q: %.90q, %d, %v; want %d, %v", text, got, at, err, place, want)
	}
}

func TestV1Write(t *testing.T) {
	for _, c := range []struct {
		rows [][]string
		want string
	}{
		{nil, ""},
		{[][]string{}, ""},
		{[][]string{{"a"}}, "a\n"},
		{[][]string{{"a", "b"}, {"c"}}, "a,b\nc\n"},
		// Rows need not be as long as each other.
		{[][]string{{"a"}, {"b", "c", "d"}, {"e", "f"}}, "a\nb,c,d\ne,f\n"},
		// An empty field stands between quotes only where it is alone.
		{[][]string{{""}}, "\"\"\n"},
		{[][]string{{"", ""}}, ",\n"},
		{[][]string{{"", "", ""}}, ",,\n"},
		{[][]string{{"", "a"}, {"a", ""}}, ",a\na,\n"},
		{[][]string{{""}, {""}, {"a"}, {""}}, "\"\"\n\"\"\na\n\"\"\n"},
		// What would end a field, or begin one with a quote.
		{[][]string{{","}}, "\",\"\n"},
		{[][]string{{"\n"}}, "\"\n\"\n"},
		{[][]string{{"\r"}}, "\"\r\"\n"},
		{[][]string{{"\""}}, "\"\"\"\"\n"},
		{[][]string{{"\"\""}}, "\"\"\"\"\"\"\n"},
		{[][]string{{"a,b", "c"}}, "\"a,b\",c\n"},
		{[][]string{{"a", "b\nc"}}, "a,\"b\nc\"\n"},
		{[][]string{{"a\r", "\rb", "c\r\n"}}, "\"a\r\",\"\rb\",\"c\r\n\"\n"},
		{[][]string{{"say \"x\"", "\"", "x\""}}, "\"say \"\"x\"\"\",\"\"\"\",\"x\"\"\"\n"},
		// All other bytes stand as they are.
		{[][]string{{" "}, {" a "}, {"\t"}}, " \n a \n\t\n"},
		{[][]string{{"'a'", ";", "\x00", "\xff\xfe", "\u00e9", "\u2028"}}, "'a',;,\x00,\xff\xfe,\u00e9,\u2028\n"},
		{[][]string{{"=A1+1", "007", "#X!", "="}}, "=A1+1,007,#X!,=\n"},
		{[][]string{{"=IF(A1,\"x\",2)"}}, "\"=IF(A1,\"\"x\"\",2)\"\n"},
	} {
		wantWritten(t, c.rows, c.want)
		wantRead(t, c.want, c.rows)
	}
}

// TestV1WriteBytes: of all bytes only four ask for quotes.
func TestV1WriteBytes(t *testing.T) {
	for b := range 256 {
		field := string([]byte{byte(b)})
		want := field
		switch b {
		case 10, 13, ',':
			want = `"` + field + `"`
		case '"':
			want = `""""`
		}
		wantWritten(t, [][]string{{field}}, want+"\n")
		wantWritten(t, [][]string{{"x", field}}, "x,"+want+"\n")
		wantRead(t, want, [][]string{{field}})
		wantRead(t, "x,"+want+"\ny", [][]string{{"x", field}, {"y"}})
	}
}

// TestV1WriteFull: it is what is written that has at most 4000 bytes, the last end of a row with it.
func TestV1WriteFull(t *testing.T) {
	x := func(many int) string { return strings.Repeat("x", many) }
	wantWritten(t, [][]string{{x(3999)}}, x(3999)+"\n")
	refuseWrite(t, [][]string{{x(4000)}}, api.ErrFull)
	refuseWrite(t, [][]string{{x(4001)}}, api.ErrFull)
	wantWritten(t, [][]string{{x(1000), x(2998)}}, x(1000)+","+x(2998)+"\n")
	refuseWrite(t, [][]string{{x(1000), x(2999)}}, api.ErrFull)
	wantWritten(t, [][]string{{x(1000)}, {x(2998)}}, x(1000)+"\n"+x(2998)+"\n")
	refuseWrite(t, [][]string{{x(1000)}, {x(2999)}}, api.ErrFull)
	// Quotes count, and doubled ones twice.
	wantWritten(t, [][]string{{"," + x(3996)}}, `",`+x(3996)+"\"\n")
	refuseWrite(t, [][]string{{"," + x(3997)}}, api.ErrFull)
	wantWritten(t, [][]string{{`"` + x(3995)}}, `"""`+x(3995)+"\"\n")
	refuseWrite(t, [][]string{{`"` + x(3996)}}, api.ErrFull)
	wantWritten(t, [][]string{{strings.Repeat(`"`, 1998), ""}}, strings.Repeat(`"`, 3998)+",\n")
	refuseWrite(t, [][]string{{strings.Repeat(`"`, 1998), "x"}}, api.ErrFull)
	refuseWrite(t, [][]string{{strings.Repeat(`"`, 1999), ""}}, api.ErrFull)
	refuseWrite(t, [][]string{{strings.Repeat(`"`, 3999)}}, api.ErrFull)
	// Empty fields have their `,`.
	wantWritten(t, [][]string{make([]string, 4000)}, strings.Repeat(",", 3999)+"\n")
	refuseWrite(t, [][]string{make([]string, 4001)}, api.ErrFull)
	refuseWrite(t, [][]string{make([]string, 1<<20)}, api.ErrFull)
	empty := slices.Repeat([][]string{{""}}, 1333)
	wantWritten(t, empty, strings.Repeat("\"\"\n", 1333))
	refuseWrite(t, append(empty, []string{""}), api.ErrFull)
	refuseWrite(t, slices.Repeat([][]string{{x(4000), x(4000)}}, 1<<16), api.ErrFull)
}

func TestV1WriteShape(t *testing.T) {
	long := strings.Repeat("x", api.MaxCsv)
	for _, none := range [][]string{nil, {}} {
		refuseWrite(t, [][]string{none}, api.ErrShape)
		refuseWrite(t, [][]string{none, {"a"}}, api.ErrShape)
		refuseWrite(t, [][]string{{"a"}, none, {"b"}}, api.ErrShape)
		// Named ahead of what is too long, wherever it stands.
		refuseWrite(t, [][]string{{long}, none}, api.ErrShape)
		refuseWrite(t, [][]string{none, {long}}, api.ErrShape)
		refuseWrite(t, append(slices.Repeat([][]string{{long}}, 9), none), api.ErrShape)
	}
}

func TestV1Read(t *testing.T) {
	for _, c := range []struct {
		text string
		want [][]string
	}{
		{"", nil},
		// A last row need not end.
		{"a", [][]string{{"a"}}},
		{"a\n", [][]string{{"a"}}},
		{"a,b\nc", [][]string{{"a", "b"}, {"c"}}},
		{"a,b\nc\n", [][]string{{"a", "b"}, {"c"}}},
		{",", [][]string{{"", ""}}},
		{"a,", [][]string{{"a", ""}}},
		{"a\n,", [][]string{{"a"}, {"", ""}}},
		{"a\n,\n", [][]string{{"a"}, {"", ""}}},
		{`""`, [][]string{{""}}},
		{`"a"`, [][]string{{"a"}}},
		{`a,"b"`, [][]string{{"a", "b"}}},
		{`a,""`, [][]string{{"a", ""}}},
		{`"",`, [][]string{{"", ""}}},
		// A row without bytes has one field; behind the last end there is no row.
		{"\n", [][]string{{""}}},
		{"\n\n", [][]string{{""}, {""}}},
		{"a\n\nb\n\n", [][]string{{"a"}, {""}, {"b"}, {""}}},
		{"\na", [][]string{{""}, {"a"}}},
		// Quotes without need.
		{"\"a\",\"b\"\n\"c\"\n", [][]string{{"a", "b"}, {"c"}}},
		{"\"\",\"\"\n", [][]string{{"", ""}}},
		{"\"=A1\",\" \"\n", [][]string{{"=A1", " "}}},
		// Quotes with need.
		{"\"a,b\",\"c\nd\",\"e\rf\",\"g\r\nh\"\n", [][]string{{"a,b", "c\nd", "e\rf", "g\r\nh"}}},
		{`"a""b"`, [][]string{{`a"b`}}},
		{`""""`, [][]string{{`"`}}},
		{`""""""`, [][]string{{`""`}}},
		{`"""a"""`, [][]string{{`"a"`}}},
		{`""",""",b`, [][]string{{`","`, "b"}}},
		{"\"\"\"\n\"\"\"\n", [][]string{{"\"\n\""}}},
		// A byte 13 ahead of a row's end.
		{"\r\n", [][]string{{""}}},
		{"a\r\n", [][]string{{"a"}}},
		{"a,\r\n", [][]string{{"a", ""}}},
		{"a,b\r\nc\r\n", [][]string{{"a", "b"}, {"c"}}},
		{"a\r\n\r\nb\nc\r\n", [][]string{{"a"}, {""}, {"b"}, {"c"}}},
		{"\"a\"\r\n\"b\"\n", [][]string{{"a"}, {"b"}}},
		{"\"\"\r\n", [][]string{{""}}},
		{"\"a\r\n\"\r\n", [][]string{{"a\r\n"}}},
		// Only one of them, and nowhere else.
		{"\r\r\n", [][]string{{"\r"}}},
		{"a\r\r\r\n", [][]string{{"a\r\r"}}},
		{"\r", [][]string{{"\r"}}},
		{"a\r", [][]string{{"a\r"}}},
		{"a\n\r", [][]string{{"a"}, {"\r"}}},
		{"\n\r\n", [][]string{{""}, {""}}},
		{"a\rb\n", [][]string{{"a\rb"}}},
		{"\ra,b\r,c\n", [][]string{{"\ra", "b\r", "c"}}},
		// Blanks and other bytes are of the field.
		{" a , b \n", [][]string{{" a ", " b "}}},
		{"\xff,\x00,\u00e9;\t", [][]string{{"\xff", "\x00", "\u00e9;\t"}}},
		{"\ufeffa", [][]string{{"\ufeffa"}}},
	} {
		wantRead(t, c.text, c.want)
	}
}

func TestV1ReadSyntax(t *testing.T) {
	for _, c := range []struct {
		text  string
		place int
	}{
		// A quote within a field that does not begin with one.
		{`a"`, 1}, {`a"b`, 1}, {`ab"c"`, 2}, {` "a"`, 1}, {"\r\"", 1}, {`a,b"`, 3}, {"a\n\nb\"\n", 4}, {`"a",b"`, 5}, {"\xff\"", 1}, {"=\"x\"\n", 1}, {"a\r\nb\"", 4},
		// A byte behind the closing one.
		{`"a"b`, 3}, {`""a`, 2}, {`"" `, 2}, {`"a" ,b`, 3}, {"\"a\"\r", 3}, {"\"a\"\r\r\n", 3}, {"\"a\"\rb\n", 3}, {"\"a\"\r,", 3}, {`"a""" "`, 5}, {`x,"a"b`, 5}, {"x\r\n\"\"y", 5}, {"\"\n\"\x00\n", 3}, {"\"\"\xff", 2},
		// Not closed.
		{`"`, 1}, {`"a`, 2}, {`"""`, 3}, {`"a""`, 4}, {`a,"`, 3}, {"a\n\"b,c\nd\n", 9}, {"\"a\r\n", 4}, {`"","`, 4}, {`"""""`, 5},
		// The first of several.
		{`a"b"c,"`, 1}, {`"a"b,c"`, 3}, {"\"a\" \na\"", 3}, {`"a"b"c`, 3},
	} {
		refuseRead(t, c.text, c.place, api.ErrSyntax)
	}
}

// TestV1ReadFull: a text has at most 4000 bytes, whatever they are.
func TestV1ReadFull(t *testing.T) {
	x := func(many int) string { return strings.Repeat("x", many) }
	wantRead(t, x(4000), [][]string{{x(4000)}})
	wantRead(t, x(3999)+"\n", [][]string{{x(3999)}})
	wantRead(t, strings.Repeat(",", 4000), [][]string{make([]string, 4001)})
	wantRead(t, strings.Repeat("\n", 4000), slices.Repeat([][]string{{""}}, 4000))
	wantRead(t, strings.Repeat("\r\n", 2000), slices.Repeat([][]string{{""}}, 2000))
	wantRead(t, strings.Repeat(`"`, 4000), [][]string{{strings.Repeat(`"`, 1999)}})
	refuseRead(t, strings.Repeat(`"`, 3999), 3999, api.ErrSyntax)
	refuseRead(t, `"`+x(3999), 4000, api.ErrSyntax)
	refuseRead(t, x(3999)+`"`, 3999, api.ErrSyntax)
	refuseRead(t, x(4001), 0, api.ErrFull)
	refuseRead(t, x(4000)+"\n", 0, api.ErrFull)
	refuseRead(t, `"`+x(4000), 0, api.ErrFull)
	refuseRead(t, `a"`+x(4000), 0, api.ErrFull)
	refuseRead(t, strings.Repeat("\n", 1<<20), 0, api.ErrFull)
}

// Rows that are written are those that are read, though their text may be too long to be written again.
func TestV1ReadBack(t *testing.T) {
	text := strings.Repeat("\n", 2000)
	rows, _, err := csv.Read(text)
	if err != nil || len(rows) != 2000 {
		t.Fatalf("%d rows, %v", len(rows), err)
	}
	refuseWrite(t, rows, api.ErrFull)
	wantWritten(t, rows[:1000], strings.Repeat("\"\"\n", 1000))
}

// Lists that come out share no memory, and what lies behind a list's length is not looked at.
func TestV1Fresh(t *testing.T) {
	const text = "a,b\n\"c\",,\"d\"\"\"\n\ne\r\n"
	want := [][]string{{"a", "b"}, {"c", "", `d"`}, {""}, {"e"}}
	rows, _, err := csv.Read(text)
	if err != nil {
		t.Fatal(err)
	}
	for i := range rows {
		before := slices.Clone(rows)
		for j := range before {
			before[j] = slices.Clone(rows[j])
		}
		for k := range rows[i][:cap(rows[i])] {
			rows[i][:cap(rows[i])][k] = "spoilt"
		}
		for j := range rows {
			if j != i && !slices.Equal(rows[j], before[j]) {
				t.Errorf("row %d is written into with row %d: %q", j, i, rows[j])
			}
		}
	}
	wantRead(t, text, want)

	fields := []string{"a", "b", "behind"}
	behind := [][]string{fields[:2], {"c"}, nil, {strings.Repeat("x", 5000)}}
	wantWritten(t, behind[:2], "a,b\nc\n")
	if !alike(behind[:3], [][]string{{"a", "b"}, {"c"}, nil}) || fields[2] != "behind" {
		t.Errorf("what was handed in is %.90q", behind)
	}
}
