package csv_test

import (
	"math/rand/v2"
	"slices"
	"strings"
	"testing"

	"sccsettle/api"
	"sccsettle/csv"
	"sccsettle/formula"
	"sccsettle/plain"
)

// What a byte is read by, in the judge's reading.
const (
	begins = iota // a field, with nothing of it read
	bare          // within one that stands between no quotes
	inside        // within one that stands between them
	shut          // behind a quote within one: doubled, or the closing one
)

// judged reads byte by byte, with a state, and never looks back or ahead, but for the byte behind a byte 13.
func judged(text string) (rows [][]string, place int, wrong api.Errno) {
	state, field, row := begins, "", []string(nil)
	for i := 0; i < len(text); i++ {
		b := text[i]
		if b == 13 && state != inside && i+1 < len(text) && text[i+1] == 10 {
			i++
			b = 10
		}
		switch {
		case b == '"' && state == begins:
			state = inside
		case b == '"' && state == bare:
			return nil, i, api.ErrSyntax
		case b == '"' && state == inside:
			state = shut
		case b == '"' && state == shut:
			field += `"`
			state = inside
		case state == inside:
			field += string([]byte{b})
		case b == ',':
			row, field, state = append(row, field), "", begins
		case b == 10:
			rows, row, field, state = append(rows, append(row, field)), nil, "", begins
		case state == shut:
			return nil, i, api.ErrSyntax
		default:
			field += string([]byte{b})
			state = bare
		}
	}
	if state == inside {
		return nil, len(text), api.ErrSyntax
	}
	if state != begins || row != nil {
		rows = append(rows, append(row, field))
	}
	return rows, 0, api.OK
}

// laid writes rows byte by byte.
func laid(rows [][]string) string {
	var b strings.Builder
	for _, row := range rows {
		for i, field := range row {
			if i > 0 {
				b.WriteByte(44)
			}
			need := len(row) == 1 && field == ""
			inner := ""
			for k := range len(field) {
				switch field[k] {
				case 34:
					inner += "\"\""
					need = true
				case 44, 10, 13:
					need = true
					fallthrough
				default:
					inner += field[k : k+1]
				}
			}
			if need {
				inner = "\"" + inner + "\""
			}
			b.WriteString(inner)
		}
		b.WriteByte(10)
	}
	return b.String()
}

func holdRead(t *testing.T, text string) (rows [][]string, wrong api.Errno) {
	t.Helper()
	rows, place, wrong := judged(text)
	if got, at, err := csv.Read(text); !alike(got, rows) || at != place || plain.Told(err) != wrong {
		t.Fatalf("Read of %q: %q, %d, %v; want %q, %d, %v", text, got, at, err, rows, place, wrong)
	}
	return rows, wrong
}

// holdWrite holds what is written against the judge, and asks that it is read as it was.
func holdWrite(t *testing.T, rows [][]string) {
	t.Helper()
	want := laid(rows)
	if len(want) > 4000 {
		refuseWrite(t, rows, api.ErrFull)
		return
	}
	if got, err := csv.Write(rows); got != want || err != nil {
		t.Fatalf("Write of %q: %q, %v; want %q", rows, got, err, want)
	}
	if back, at, err := csv.Read(want); !alike(back, rows) || at != 0 || err != nil {
		t.Fatalf("Read of %q: %q, %d, %v; want %q", want, back, at, err, rows)
	}
}

// allOf are all texts of at most so many bytes, of those of letters.
func allOf(letters string, long int) []string {
	all := []string{""}
	for from, l := 0, 0; l < long; l++ {
		to := len(all)
		for _, text := range all[from:to] {
			for i := range len(letters) {
				all = append(all, text+letters[i:i+1])
			}
		}
		from = to
	}
	return all
}

// TestV1AllShort holds the reading of all short texts against the judge, and the writing of what they are.
func TestV1AllShort(t *testing.T) {
	told := map[api.Errno]int{}
	for _, text := range allOf("a,\"\n\r", 7) {
		rows, wrong := holdRead(t, text)
		told[wrong]++
		if wrong == api.OK {
			holdWrite(t, rows)
		}
	}
	if min(told[api.OK], told[api.ErrSyntax]) < 20000 {
		t.Errorf("told %v", told)
	}
}

type drawer struct{ *rand.Rand }

func (d drawer) one(l ...string) string { return l[d.IntN(len(l))] }

// joined has some of l, one behind the other.
func (d drawer) joined(most int, l ...string) string {
	var b strings.Builder
	for range d.IntN(most + 1) {
		b.WriteString(d.one(l...))
	}
	return b.String()
}

func (d drawer) field() string {
	switch d.IntN(4) {
	case 0:
		return ""
	case 1:
		return d.joined(40, "x", "yy", "=A1", "\u00e9")
	}
	return d.joined(6, "a", "b", ",", "\"", "\n", "\r", "\r\n", " ", "\xff", "\x00")
}

// rows are few mostly, and else so many that their text is too long at times.
func (d drawer) rows() (rows [][]string) {
	for range d.IntN(6 + d.IntN(8)/7*180) {
		var row []string
		for range 1 + d.IntN(5) {
			row = append(row, d.field())
		}
		rows = append(rows, row)
	}
	return rows
}

// loose writes rows so that they can be read, but not as Write does.
func (d drawer) loose(rows [][]string) string {
	var b strings.Builder
	for i, row := range rows {
		for k, field := range row {
			if k > 0 {
				b.WriteByte(',')
			}
			if strings.ContainsAny(field, ",\"\r\n") || d.IntN(3) == 0 {
				field = `"` + strings.ReplaceAll(field, `"`, `""`) + `"`
			}
			b.WriteString(field)
		}
		// A row of one empty field without quotes has to end.
		if i < len(rows)-1 || strings.Join(row, ",") == "" || d.IntN(2) == 0 {
			b.WriteString(d.one("\n", "\r\n"))
		}
	}
	return b.String()
}

// TestV1Judged holds drawn rows, and texts of them that are spoilt at times, against the judge.
func TestV1Judged(t *testing.T) {
	d := drawer{rand.New(rand.NewPCG(16, 1))}
	told, long := map[api.Errno]int{}, 0
	for range 20000 {
		rows := d.rows()
		holdWrite(t, rows)
		text := d.loose(rows)
		if len(laid(rows)) > 4000 {
			long++
		}
		if len(text) > 4000 {
			refuseRead(t, text, 0, api.ErrFull)
			continue
		}
		wantRead(t, text, rows)
		if cut := d.IntN(len(text) + 1); len(text) < 4000 {
			text = text[:cut] + d.one("\"", "\r", ",", "a", "\n", "\"\"") + text[cut:]
			if d.IntN(2) == 0 {
				text = text[:cut]
			}
			_, wrong := holdRead(t, text)
			told[wrong]++
		}
	}
	if min(told[api.OK], told[api.ErrSyntax]) < 1500 || long < 100 {
		t.Errorf("texts were told %v, and rows too long %d times", told, long)
	}
}

// fault of a text as that of a cell.
func fault(text string) api.Errno {
	if len(text) > 200 {
		return api.ErrFull
	}
	if _, _, err := formula.Parse(text); strings.HasPrefix(text, "=") && err != nil {
		return api.ErrSyntax
	}
	return api.OK
}

// placed looks up the field of each place that may be one of a cell, and of those beyond.
func placed(rows [][]string) (l []api.Filled, wrong api.Errno) {
	wide := 0
	for _, row := range rows {
		wide = max(wide, len(row))
	}
	for i := range len(rows) * wide {
		row, col := i/wide, i%wide
		if col >= len(rows[row]) || rows[row][col] == "" {
			continue
		}
		text := rows[row][col]
		l = append(l, api.Filled{Cell: api.Cell{Col: col + 1, Row: row + 1}, Text: text})
		if wrong == api.OK && (row >= 99 || col >= 26) {
			wrong = api.ErrRange
		}
		if wrong == api.OK {
			wrong = fault(text)
		}
	}
	switch {
	case len(l) > 200:
		wrong = api.ErrFull
	case wrong == api.OK && (len(rows) > 99 || wide > 26):
		wrong = api.ErrRange
	}
	if wrong != api.OK {
		return nil, wrong
	}
	return l, api.OK
}

// spread draws rows of which some are too many, or too wide, and most fields empty.
func (d drawer) spread() [][]string {
	rows := make([][]string, d.IntN(5+d.IntN(2)*105))
	for i := range rows {
		rows[i] = make([]string, d.IntN(4+d.IntN(2)*20))
	}
	if len(rows) > 0 && d.IntN(4) == 0 {
		rows[d.IntN(len(rows))] = make([]string, 20+d.IntN(14))
	}
	for range d.IntN(30 + d.IntN(2)*200) {
		if len(rows) == 0 {
			break
		}
		row := rows[d.IntN(len(rows))]
		if len(row) > 0 {
			row[d.IntN(len(row))] = d.one("a", "1", " ", "=A1+1", "=SUM(A1:B9)", "\n")
		}
	}
	if len(rows) > 0 && d.IntN(4) == 0 {
		if row := rows[d.IntN(len(rows))]; len(row) > 0 {
			row[d.IntN(len(row))] = d.one("=", "=A100", strings.Repeat("x", 200), strings.Repeat("x", 201))
		}
	}
	return rows
}

// TestV2Judged holds drawn rows against the judge, and what comes of sheets against the rows that they were.
func TestV2Judged(t *testing.T) {
	d := drawer{rand.New(rand.NewPCG(16, 2))}
	told := map[api.Errno]int{}
	for range 8000 {
		rows := d.spread()
		want, wrong := placed(rows)
		got, err := csv.Sheet(rows)
		if !slices.Equal(got, want) || plain.Told(err) != wrong {
			t.Fatalf("Sheet of %q: %q, %v; want %q, %v", rows, listed(got), err, listed(want), wrong)
		}
		told[wrong]++
		if wrong == api.OK {
			holdRows(t, got, rows)
		}
	}
	if min(told[api.OK], told[api.ErrRange], told[api.ErrFull], told[api.ErrSyntax]) < 300 {
		t.Errorf("told %v", told)
	}
}

// holdRows asks for all fields up to the last row and column that have one, and that the sheet comes back from these, as text, too.
func holdRows(t *testing.T, l []api.Filled, rows [][]string) {
	t.Helper()
	deep, wide := 0, 0
	for i, row := range rows {
		for k, field := range row {
			if field != "" {
				deep, wide = max(deep, i+1), max(wide, k+1)
			}
		}
	}
	want := make([][]string, deep)
	for i := range want {
		want[i] = make([]string, wide)
		copy(want[i], rows[i])
	}
	got, err := csv.Rows(l)
	if !alike(got, want) || err != nil {
		t.Fatalf("Rows of %q: %q, %v; want %q", listed(l), got, err, want)
	}
	if text, err := csv.Write(got); err == nil {
		if got, _, err = csv.Read(text); err != nil {
			t.Fatalf("Read of %q: %v", text, err)
		}
	}
	if back, err := csv.Sheet(got); !slices.Equal(back, l) || err != nil {
		t.Fatalf("Sheet of the Rows of %q: %q, %v", listed(l), listed(back), err)
	}
}
