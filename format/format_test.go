package format_test

import (
	"math"
	"strings"
	"testing"

	"sccsettle/api"
	"sccsettle/format"
	"sccsettle/plain"
)

func number(n int) api.Value { return api.Value{Kind: api.Number, Num: n} }

// otherValues are of all kinds but numbers, with what chapter 1 shows of them.
func otherValues() map[api.Value]string {
	return map[api.Value]string{
		{}:                                    "",
		{Kind: api.Text}:                      "",
		{Kind: api.Text, Text: "12"}:          "12",
		{Kind: api.Text, Text: "-0.5 \xff\n"}: "-0.5 \xff\n",
		{Kind: api.Text, Text: strings.Repeat("x", api.MaxText)}: strings.Repeat("x", api.MaxText),
		{Kind: api.Truth}:                  "FALSE",
		{Kind: api.Truth, Num: 1}:          "TRUE",
		{Kind: api.Bad, Num: api.BadDiv}:   "#DIV!",
		{Kind: api.Bad, Num: api.BadValue}: "#VALUE!",
		{Kind: api.Bad, Num: api.BadRef}:   "#REF!",
		{Kind: api.Bad, Num: api.BadName}:  "#NAME!",
		{Kind: api.Bad, Num: api.BadNum}:   "#NUM!",
		{Kind: api.Bad, Num: api.BadNone}:  "#NONE!",
	}
}

// noValues have what their kind does not use, or what may not be; or are of no kind.
func noValues() []api.Value {
	return []api.Value{
		{Num: 1}, {Text: "x"}, {Kind: api.Number, Num: 7, Text: "x"}, {Kind: api.Text, Num: 1},
		{Kind: api.Text, Text: strings.Repeat("x", api.MaxText+1)}, {Kind: api.Truth, Num: 2}, {Kind: api.Truth, Num: math.MinInt},
		{Kind: api.Bad}, {Kind: api.Bad, Num: 7}, {Kind: api.Bad, Num: math.MaxInt}, {Kind: 5}, {Kind: -1}, {Kind: math.MaxInt}, {Kind: math.MinInt},
	}
}

func wantShown(t *testing.T, v api.Value, code, want string) {
	t.Helper()
	if got, err := format.Show(v, code); got != want || err != nil {
		t.Errorf("Show of %v by %q: %q, %v; want %q", v, code, got, err, want)
	}
	if err := format.Check(code); err != nil {
		t.Errorf("Check of %q: %v", code, err)
	}
}

// refuseCode asks for ErrSyntax of both calls, whatever the value, and for nothing beside it.
func refuseCode(t *testing.T, code string) {
	t.Helper()
	if err := format.Check(code); plain.Told(err) != api.ErrSyntax {
		t.Errorf("Check of %q: %v; want ErrSyntax", code, err)
	}
	for _, v := range append(noValues(), number(7), api.Value{}, api.Value{Kind: api.Text, Text: "x"}, api.Value{Kind: api.Truth}, api.Value{Kind: api.Bad, Num: 1}) {
		if got, err := format.Show(v, code); got != "" || plain.Told(err) != api.ErrSyntax {
			t.Errorf("Show of %v by %q: %q, %v; want ErrSyntax", v, code, got, err)
		}
	}
}

func TestM1Show(t *testing.T) {
	for _, c := range []struct {
		n    int
		code string
		want string
	}{
		{-1234567, `"$"#,0.00`, "-$12,345.67"},
		{1234567, `"$"#,0.00`, "$12,345.67"},
		{0, "0", "0"},
		{7, "0", "7"},
		{-7, "0", "-7"},
		{1234567, "0", "1234567"},
		{12, "00", "12"},
		{12, "0000", "0012"},
		{-12, "0000", "-0012"},
		{0, "000", "000"},
		{25, "0%", "25%"},
		{-25, "00.0%", "-02.5%"},
		{3, `0" kg"`, "3 kg"},
		{-3, `"about "0" kg"`, "-about 3 kg"},
		{3, `""0""`, "3"},
		{-3, `"-"0"-"`, "--3-"},
		{3, `"%"0"%"`, "%3%"},
		{3, `"0"0"#,"`, "03#,"},
		{3, "\"\n\x00\xff\"0\"\u00e9\"", "\n\x00\xff3\u00e9"},
	} {
		wantShown(t, number(c.n), c.code, c.want)
	}
}

func TestM1ShowByThree(t *testing.T) {
	for _, c := range []struct {
		n    int
		code string
		want string
	}{
		{0, "#,0", "0"},
		{12, "#,0", "12"},
		{999, "#,0", "999"},
		{-999, "#,0", "-999"},
		{1000, "#,0", "1,000"},
		{-1000, "#,0", "-1,000"},
		{12345, "#,0", "12,345"},
		{123456, "#,0", "123,456"},
		{-123456, "#,0", "-123,456"},
		{1234567, "#,0", "1,234,567"},
		{4, "#,000", "004"},
		{4, "#,0000", "0,004"},
		{-4, "#,000000", "-000,004"},
		{4, "#,0000000", "0,000,004"},
		{123456, "#,0.000000", "0.123456"},
		{123456789, "#,0.000000", "123.456789"},
		{1234567890, "#,0.000000", "1,234.567890"},
		{-99999, "#,0.00%", "-999.99%"},
		{100000, "#,0.00%", "1,000.00%"},
		{1234, `"#,"#,0","`, "#,1,234,"},
	} {
		wantShown(t, number(c.n), c.code, c.want)
	}
}

func TestM1ShowPlaces(t *testing.T) {
	for _, c := range []struct {
		n    int
		code string
		want string
	}{
		{0, "0.0", "0.0"},
		{5, "0.0", "0.5"},
		{-5, "0.0", "-0.5"},
		{5, "0.00", "0.05"},
		{-5, "0.00", "-0.05"},
		{50, "0.00", "0.50"},
		{100, "0.00", "1.00"},
		{-123, "0.00", "-1.23"},
		{123, "00.00", "01.23"},
		{12345, "00.00", "123.45"},
		{1, "0.000000", "0.000001"},
		{-1, "0.000000", "-0.000001"},
		{999999, "0.000000", "0.999999"},
		{1000000, "0.000000", "1.000000"},
		{7, "000.000", "000.007"},
	} {
		wantShown(t, number(c.n), c.code, c.want)
	}
}

// TestM1ShowEdges: the numbers at the ends of 64 bits, of which the least has no positive one beside it.
func TestM1ShowEdges(t *testing.T) {
	for _, c := range []struct {
		n    int
		code string
		want string
	}{
		{math.MaxInt, "0", "9223372036854775807"},
		{math.MinInt, "0", "-9223372036854775808"},
		{math.MinInt + 1, "0", "-9223372036854775807"},
		{math.MaxInt, "#,0", "9,223,372,036,854,775,807"},
		{math.MinInt, "#,0", "-9,223,372,036,854,775,808"},
		{math.MinInt, "#,0.000000", "-9,223,372,036,854.775808"},
		{math.MaxInt, `"$"#,0.0%`, "$922,337,203,685,477,580.7%"},
		{math.MinInt, strings.Repeat("0", 20), "-09223372036854775808"},
		{math.MinInt, strings.Repeat("0", 19), "-9223372036854775808"},
	} {
		wantShown(t, number(c.n), c.code, c.want)
	}
}

// TestM1CodeLength: 40 bytes may be, 41 not, whatever they are made of.
func TestM1CodeLength(t *testing.T) {
	wantShown(t, number(-7), strings.Repeat("0", 40), "-"+strings.Repeat("0", 39)+"7")
	wantShown(t, number(7), "#,"+strings.Repeat("0", 38), "00,"+strings.Repeat("000,", 11)+"007")
	wantShown(t, number(7), `"`+strings.Repeat("x", 37)+`"0`, strings.Repeat("x", 37)+"7")
	wantShown(t, number(7), `0"`+strings.Repeat("x", 37)+`"`, "7"+strings.Repeat("x", 37))
	wantShown(t, number(7), strings.Repeat("0", 32)+".000000%", strings.Repeat("0", 32)+".000007%")
	wantShown(t, number(7), `"`+strings.Repeat("\u00e9", 18)+`x"0`, strings.Repeat("\u00e9", 18)+"x7")
	refuseCode(t, strings.Repeat("0", 41))
	refuseCode(t, "#,"+strings.Repeat("0", 39))
	refuseCode(t, `"`+strings.Repeat("x", 38)+`"0`)
	refuseCode(t, `0"`+strings.Repeat("x", 38)+`"`)
	refuseCode(t, strings.Repeat("0", 33)+".000000%")
	refuseCode(t, `"`+strings.Repeat("\u00e9", 19)+`"0`)
	refuseCode(t, strings.Repeat("0", 1<<20))
}

func TestM1NoCode(t *testing.T) {
	for _, code := range []string{
		"", " ", "#", "#,", ",", ".", "%", `"`, `""`, `"x"`, `"x"#,`, `"x""y"`, `"0"`, `"0`, `0"`, `"x0`, `0"x`, `""x"0`, `0"x""`, `0"x"y"`,
		`"x""y"0`, `0"x""y"`, `"x" 0`, `0 "x"`, "x0", "0x", " 0", "0 ", "0\n", "0\x00", "\xff0",
		"#0", ",0", "#,#,0", "0#,", "0,0", "#.0", "#,.0", ".0", "0.", "0..0", "0.0.0", "0.0000000", "0.00000000", "0.%", `0."x"`, "0.0,0", "#,0,000",
		"0%%", "%0", "0%0", "0%.0", `0%"x"`, `0"x"%`, `%"x"0`, `#,"x"0`, `0"x".0`, `0.0"x"0`, "-0", "0-", "+0", "1", "01", "10", "0.1", "0.01", "0.0 %", "'x'0", "0E0", "\uff10",
	} {
		refuseCode(t, code)
	}
}

// TestM1Others: a code is for numbers; what else there is looks as ever, by any code that is one.
func TestM1Others(t *testing.T) {
	for v, want := range otherValues() {
		for _, code := range []string{"0", "#,0000.00%", `"$"0`, `000" kg"`, strings.Repeat("0", 40)} {
			wantShown(t, v, code, want)
		}
	}
}

// TestM1NoValues: nothing is said of them, but that the call ends, and that a code is one whatever the value.
func TestM1NoValues(t *testing.T) {
	for _, v := range noValues() {
		if got, err := format.Show(v, "#,0.00"); err != nil {
			t.Errorf("Show of %v: %q, %v", v, got, err)
		}
	}
}

func TestM2Wide(t *testing.T) {
	for _, c := range []struct {
		text string
		wide int
		want [3]string
	}{
		{"abc", 6, [3]string{"abc   ", " abc  ", "   abc"}},
		{"abc", 5, [3]string{"abc  ", " abc ", "  abc"}},
		{"abc", 4, [3]string{"abc ", "abc ", " abc"}},
		{"abc", 3, [3]string{"abc", "abc", "abc"}},
		{"abc", 2, [3]string{"ab", "ab", "ab"}},
		{"abc", 1, [3]string{"a", "a", "a"}},
		{"abc", 0, [3]string{"", "", ""}},
		{"", 0, [3]string{"", "", ""}},
		{"", 1, [3]string{" ", " ", " "}},
		{"", 3, [3]string{"   ", "   ", "   "}},
		{"x", 8, [3]string{"x       ", "   x    ", "       x"}},
		{" a ", 6, [3]string{" a    ", "  a   ", "    a "}},
		{" abc", 2, [3]string{" a", " a", " a"}},
		{"\u00e9", 1, [3]string{"\xc3", "\xc3", "\xc3"}},
		{"\u00e9", 2, [3]string{"\u00e9", "\u00e9", "\u00e9"}},
		{"\u00e9", 4, [3]string{"\u00e9  ", " \u00e9 ", "  \u00e9"}},
		{"\n\x00", 3, [3]string{"\n\x00 ", "\n\x00 ", " \n\x00"}},
	} {
		for side, want := range c.want {
			if got, err := format.Wide(c.text, c.wide, side); got != want || err != nil {
				t.Errorf("Wide of %q, %d, %d: %q, %v; want %q", c.text, c.wide, side, got, err, want)
			}
		}
	}
}

// TestM2WideLong: a text may be of any length, what comes out of 200 bytes.
func TestM2WideLong(t *testing.T) {
	for _, long := range []int{0, 1, 199, 200, 201, 1 << 20} {
		text := strings.Repeat("x", long)
		for side := range 3 {
			got, err := format.Wide(text, api.MaxText, side)
			if err != nil || len(got) != 200 || strings.Trim(got, " ") != strings.Repeat("x", min(long, 200)) {
				t.Errorf("Wide of %d bytes, 200, %d: %d bytes, %v", long, side, len(got), err)
			}
		}
	}
}

func TestM2WideRefused(t *testing.T) {
	for _, c := range []struct{ wide, side int }{
		{-1, 0}, {-1, 1}, {-1, 2}, {201, 0}, {201, 1}, {201, 2}, {math.MinInt, 0}, {math.MaxInt, 0}, {math.MaxInt, 2},
		{0, -1}, {0, 3}, {6, -1}, {6, 3}, {6, math.MinInt}, {6, math.MaxInt}, {200, 3}, {2, 3}, {-1, -1}, {201, 3},
	} {
		for _, text := range []string{"", "abc", strings.Repeat("x", 300)} {
			if got, err := format.Wide(text, c.wide, c.side); got != "" || plain.Told(err) != api.ErrRange {
				t.Errorf("Wide of %.9q, %d, %d: %q, %v; want ErrRange", text, c.wide, c.side, got, err)
			}
		}
	}
}

func TestM2Column(t *testing.T) {
	for _, c := range []struct {
		col     int
		letters string
	}{
		{1, "A"}, {2, "B"}, {26, "Z"}, {27, "AA"}, {28, "AB"}, {52, "AZ"}, {53, "BA"}, {702, "ZZ"}, {703, "AAA"},
		{18278, "ZZZ"}, {18279, "AAAA"}, {475254, "ZZZZ"}, {475255, "AAAAA"}, {999999, "BDWGM"}, {1000000, "BDWGN"},
	} {
		if got, err := format.Column(c.col); got != c.letters || err != nil {
			t.Errorf("Column %d: %q, %v; want %q", c.col, got, err, c.letters)
		}
		if got, err := format.Number(c.letters); got != c.col || err != nil {
			t.Errorf("Number of %q: %d, %v; want %d", c.letters, got, err, c.col)
		}
	}
}

func TestM2NoColumn(t *testing.T) {
	for _, col := range []int{0, -1, -26, 1000001, 12356630, math.MaxInt, math.MinInt} {
		if got, err := format.Column(col); got != "" || plain.Told(err) != api.ErrRange {
			t.Errorf("Column %d: %q, %v; want ErrRange", col, got, err)
		}
	}
}

func TestM2NoNumber(t *testing.T) {
	texts := []string{
		"", " ", "a", "z", "Aa", "aA", "@", "[", "A@", "A[", "`", "A1", "1", "1A", "$A", "A$", " A", "A ", "A\n", "A\x00", "\x00A", "A-", "-A", "\u00c4", "\xc1", "\uff21",
		"BDWGO", "BDWHA", "BDXAA", "BEAAA", "CAAAA", "ZZZZZ", "AAAAAA", "AAAAAAA", "BDWGNA", "ABDWGN",
	}
	// Of many letters the number wraps round, to any that there is.
	for long := 6; long < 80; long++ {
		texts = append(texts, strings.Repeat("A", long), strings.Repeat("P", long), strings.Repeat("Z", long))
	}
	texts = append(texts, strings.Repeat("Z", 1<<20))
	for _, text := range texts {
		if got, err := format.Number(text); got != 0 || plain.Told(err) != api.ErrSyntax {
			t.Errorf("Number of %.40q: %d, %v; want ErrSyntax", text, got, err)
		}
	}
}

// nextLetters counts on, as a row of wheels does.
func nextLetters(letters []byte) []byte {
	for i := len(letters) - 1; i >= 0; i-- {
		if letters[i] < 'Z' {
			letters[i]++
			return letters
		}
		letters[i] = 'A'
	}
	return append([]byte{'A'}, letters...)
}

// TestM2AllColumns counts them through, one by one.
func TestM2AllColumns(t *testing.T) {
	var letters []byte
	for col := 1; col <= 1000000; col++ {
		letters = nextLetters(letters)
		got, err := format.Column(col)
		back, bad := format.Number(string(letters))
		if got != string(letters) || err != nil || back != col || bad != nil {
			t.Fatalf("column %d, %s: %q, %v; %d, %v", col, letters, got, err, back, bad)
		}
	}
	if string(letters) != "BDWGN" {
		t.Errorf("the last column is %s", letters)
	}
}
