package book_test

import (
	"bytes"
	"fmt"
	"math"
	"slices"
	"strconv"
	"strings"
	"testing"

	"sccsettle/api"
	"sccsettle/book"
	"sccsettle/plain"
)

// at reads a cell's name, without the program's own words for it.
func at(name string) api.Cell {
	row, err := strconv.Atoi(name[1:])
	if err != nil {
		panic(name)
	}
	return api.Cell{Col: int(name[0]-'A') + 1, Row: row}
}

func named(c api.Cell) string { return fmt.Sprintf("%c%d", 'A'+c.Col-1, c.Row) }

// filled reads cells with their texts: "A1 =B1; B1 ".
func filled(text string) (l []api.Filled) {
	if text == "" {
		return nil
	}
	for _, word := range strings.Split(text, "; ") {
		name, of, _ := strings.Cut(word, " ")
		l = append(l, api.Filled{Cell: at(name), Text: of})
	}
	return l
}

func listed(l []api.Filled) string {
	var words []string
	for _, f := range l {
		words = append(words, named(f.Cell)+" "+f.Text)
	}
	return strings.Join(words, "; ")
}

// full has as many cells as may be, with one text: A1 to Z7, and A8 to R8.
func full(text string) (l []api.Filled) {
	for i := range api.MaxCells {
		l = append(l, api.Filled{Cell: api.Cell{Col: i%26 + 1, Row: i/26 + 1}, Text: text})
	}
	return l
}

// logged are the entries of a list, whose cells need not stand in order, and of which a sheet need not take any.
func logged(l []api.Filled) (b []byte) {
	for _, f := range l {
		b = append(b, framed(byte(f.Cell.Col), byte(f.Cell.Row), f.Text)...)
	}
	return b
}

// brief writes bytes; of very many the first ones, and how many there are.
func brief(b []byte) string {
	if len(b) > 60 {
		return fmt.Sprintf("%v.. of %d", b[:50], len(b))
	}
	return fmt.Sprint(b)
}

func wantEntry(t *testing.T, f api.Filled, want []byte) {
	t.Helper()
	if got, err := book.Entry(f); !bytes.Equal(got, want) || err != nil {
		t.Errorf("Entry of %v: %s, %v; want %s", f, brief(got), err, brief(want))
	}
}

func refuseEntry(t *testing.T, c api.Cell, text string, want api.Errno) {
	t.Helper()
	if got, err := book.Entry(api.Filled{Cell: c, Text: text}); len(got) != 0 || plain.Told(err) != want {
		t.Errorf("Entry of %v %.60q: %s, %v; want %v", c, text, brief(got), err, want)
	}
}

func wantWritten(t *testing.T, l []api.Filled, want []byte) {
	t.Helper()
	if got, err := book.Write(l); !bytes.Equal(got, want) || err != nil {
		t.Errorf("Write of %.90q: %s, %v; want %s", listed(l), brief(got), err, brief(want))
	}
}

func refuseWrite(t *testing.T, l []api.Filled, want api.Errno) {
	t.Helper()
	if got, err := book.Write(l); len(got) != 0 || plain.Told(err) != want {
		t.Errorf("Write of %.90q: %s, %v; want %v", listed(l), brief(got), err, want)
	}
}

func TestB1Entry(t *testing.T) {
	for _, c := range []struct {
		name, text string
		want       []byte
	}{
		{"A1", "1", []byte{1, 1, 1, 49, 172, 86}},
		{"B1", "14", []byte{2, 1, 2, 49, 52, 69, 75}},
		{"Z99", "=A1", []byte{26, 99, 3, 61, 65, 49, 1, 225}},
		// A text of none: the cell is blank then.
		{"A1", "", []byte{1, 1, 0, 63, 21}},
		{"Z99", "", []byte{26, 99, 0, 49, 171}},
		// All bytes stand as they are.
		{"C7", "a\nb", []byte{3, 7, 3, 97, 10, 98, 161, 232}},
		{"E50", "\x00\xff", []byte{5, 50, 2, 0, 255, 157, 89}},
		{"A1", "\u00e9", []byte{1, 1, 2, 195, 169, 16, 157}},
		// The least sums that there are.
		{"F39", "0", []byte{6, 39, 1, 48, 0, 0}},
		{"F39", "9", []byte{6, 39, 1, 57, 9, 0}},
	} {
		wantEntry(t, api.Filled{Cell: at(c.name), Text: c.text}, c.want)
	}
}

// TestB1EntryEdges: the longest texts, all cells, all bytes.
func TestB1EntryEdges(t *testing.T) {
	x, high := strings.Repeat("x", 200), strings.Repeat("\xff", 200)
	wantEntry(t, api.Filled{Cell: at("A1"), Text: x}, append(append([]byte{1, 1, 200}, x...), 216, 49))
	wantEntry(t, api.Filled{Cell: at("Z99"), Text: high}, append(append([]byte{26, 99, 200}, high...), 204, 84))
	for _, text := range []string{
		"=" + strings.Repeat("1+", 99) + "1",
		"=" + strings.Repeat("-", api.MaxDepth) + "1",
		"= ( A1 + 1 ) ",
		" =", " ", "'=1", "007", "#X!",
	} {
		wantEntry(t, api.Filled{Cell: at("M50"), Text: text}, framed(13, 50, text))
	}
	for col := 1; col <= 26; col++ {
		for row := 1; row <= 99; row++ {
			wantEntry(t, api.Filled{Cell: api.Cell{Col: col, Row: row}, Text: "x"}, framed(byte(col), byte(row), "x"))
		}
	}
	for b := range 256 {
		text := "a" + string([]byte{byte(b)})
		wantEntry(t, api.Filled{Cell: at("B2"), Text: text}, framed(2, 2, text))
	}
}

func TestB1EntryFaults(t *testing.T) {
	long := strings.Repeat("x", api.MaxText+1)
	for _, c := range []api.Cell{
		{}, {Col: 1}, {Row: 1}, {Col: 27, Row: 1}, {Col: 1, Row: 100}, {Col: -1, Row: 1}, {Col: 1, Row: -1},
		// Bytes would hold the numbers of a cell.
		{Col: 257, Row: 1}, {Col: 1, Row: 257}, {Col: -255, Row: -255}, {Col: 1 << 32, Row: 1}, {Col: 1<<32 + 1, Row: 1},
		{Col: math.MaxInt, Row: math.MaxInt}, {Col: math.MinInt, Row: math.MinInt}, {Col: math.MinInt + 1, Row: 1},
	} {
		// Named ahead of what is wrong with the text.
		for _, text := range []string{"", "1", "=", long, "=" + long} {
			refuseEntry(t, c, text, api.ErrRange)
		}
	}
	for _, text := range []string{long, "=" + long, "=1" + strings.Repeat(" ", 199), strings.Repeat("x", 256), strings.Repeat("x", 1<<20)} {
		refuseEntry(t, at("A1"), text, api.ErrFull)
	}
	for _, text := range []string{"=", "=1+", "=a1", "=A100", "=A1:A2", `="x`, "==1", "=" + strings.Repeat("-", api.MaxDepth+1) + "1"} {
		refuseEntry(t, at("Z99"), text, api.ErrSyntax)
	}
}

func TestB1Write(t *testing.T) {
	wantWritten(t, nil, nil)
	wantWritten(t, []api.Filled{}, nil)
	wantWritten(t, filled("B1 14"), []byte{2, 1, 2, 49, 52, 69, 75})
	wantWritten(t, filled("A1 1; B1 14; Z99 =A1"), []byte{1, 1, 1, 49, 172, 86, 2, 1, 2, 49, 52, 69, 75, 26, 99, 3, 61, 65, 49, 1, 225})
	// Each sum begins anew.
	wantWritten(t, filled("A1 1; F39 0"), []byte{1, 1, 1, 49, 172, 86, 6, 39, 1, 48, 0, 0})
	for _, l := range [][]api.Filled{
		filled("A1 =B1; B1 =A1; C1 x"),
		filled("Z1 1; A2 = 1 ; Z99 \xff\x00"),
		full("x"), full("=SUM(A1:Z99)"), full(strings.Repeat("y", 200)),
	} {
		var want []byte
		for _, f := range l {
			e, err := book.Entry(f)
			if err != nil {
				t.Fatal(err)
			}
			want = append(want, e...)
		}
		wantWritten(t, l, want)
		wantWritten(t, l, logged(l))
	}
}

func TestB1WriteFaults(t *testing.T) {
	long := strings.Repeat("x", api.MaxText+1)
	for _, c := range []struct {
		list []api.Filled
		want api.Errno
	}{
		{append(full("="), api.Filled{Cell: at("Z99"), Text: "1"}), api.ErrFull},
		{[]api.Filled{{Text: "1"}}, api.ErrRange},
		{[]api.Filled{{Cell: api.Cell{Col: 27, Row: 1}}}, api.ErrRange},
		{[]api.Filled{{Cell: api.Cell{Col: 1, Row: 100}, Text: "="}}, api.ErrRange},
		{[]api.Filled{{Cell: api.Cell{Col: 257, Row: 257}, Text: "1"}}, api.ErrRange},
		{[]api.Filled{{Cell: api.Cell{Col: math.MinInt, Row: math.MaxInt}, Text: "1"}}, api.ErrRange},
		{filled("B1 1; A1 2"), api.ErrOrder},
		{filled("A2 1; Z1 2"), api.ErrOrder},
		{filled("A1 1; A1 1"), api.ErrOrder},
		// An Entry may have a text of none, a sheet may not.
		{filled("A1 "), api.ErrShape},
		{filled("A1 1; B1 ; C1 ="), api.ErrShape},
		{filled("A1 " + long), api.ErrFull},
		{filled("A1 =" + long), api.ErrFull},
		{filled("A1 1; Z99 ="), api.ErrSyntax},
		{filled("A1 =A100; B1 ; A1 1"), api.ErrSyntax},
	} {
		refuseWrite(t, c.list, c.want)
	}
}

// Nothing that is handed in is written into or kept, and what comes out is the caller's.
func TestB1Fresh(t *testing.T) {
	behind := filled("A1 =A2; B1 2; Z99 3; A1 ; A1 =")
	l := behind[:2]
	want := logged(l)
	for range 2 {
		b, err := book.Write(l)
		if !bytes.Equal(b, want) || err != nil {
			t.Fatalf("Write: %v, %v; want %v", b, err, want)
		}
		spoil(b)
		e, err := book.Entry(l[1])
		if !bytes.Equal(e, logged(l[1:])) || err != nil {
			t.Fatalf("Entry: %v, %v", e, err)
		}
		spoil(e)
	}
	if got := listed(behind); got != "A1 =A2; B1 2; Z99 3; A1 ; A1 =" {
		t.Errorf("Write wrote into what was handed in: %s", got)
	}
}

// spoil writes into all that a list has in its memory.
func spoil(b []byte) {
	b = b[:cap(b)]
	for i := range b {
		b[i] = 77
	}
}

// wantOpened asks what bytes tell, and that Pack of them writes just that.
func wantOpened(t *testing.T, b []byte, want []api.Filled, long int) {
	t.Helper()
	was := slices.Clone(b)
	got, n := book.Open(b)
	if !slices.Equal(got, want) || n != long {
		t.Errorf("Open of %s: %.90q, %d; want %.90q, %d", brief(b), listed(got), n, listed(want), long)
	}
	packed, err := book.Pack(b)
	if !bytes.Equal(packed, logged(want)) || err != nil {
		t.Errorf("Pack of %s: %s, %v; want %s", brief(b), brief(packed), err, brief(logged(want)))
	}
	if back, n := book.Open(packed); !slices.Equal(back, want) || n != len(packed) {
		t.Errorf("Open of Pack of %s: %.90q, %d of %d; want %.90q", brief(b), listed(back), n, len(packed), listed(want))
	}
	if again, err := book.Pack(packed); !bytes.Equal(again, packed) || err != nil {
		t.Errorf("Pack of Pack of %s: %s, %v; want %s", brief(b), brief(again), err, brief(packed))
	}
	if !bytes.Equal(b, was) {
		t.Errorf("what was handed in was written into: %s; it was %s", brief(b), brief(was))
	}
}

// TestB2Open: entries of bytes, one after the other.
func TestB2Open(t *testing.T) {
	wantOpened(t, nil, nil, 0)
	wantOpened(t, []byte{}, nil, 0)
	wantOpened(t, []byte{2, 1, 2, 49, 52, 69, 75}, filled("B1 14"), 7)
	wantOpened(t, []byte{2, 1, 2, 49, 52, 69, 75, 1, 1, 1, 49, 172, 86}, filled("A1 1; B1 14"), 13)
	wantOpened(t, []byte{1, 1, 1, 49, 172, 86, 1, 1, 0, 63, 21}, nil, 11)
	wantOpened(t, []byte{6, 39, 1, 48, 0, 0}, filled("F39 0"), 6)
	for _, c := range []struct{ log, want string }{
		// Cells may come in any order, and come out as they stand.
		{"C1 3; A2 4; B1 2; A1 1; Z1 5", "A1 1; B1 2; C1 3; Z1 5; A2 4"},
		// The last text of a cell counts.
		{"A1 1; A1 2", "A1 2"},
		{"A1 1; B1 1; A1 2; A1 1", "A1 1; B1 1"},
		{"A1 1; A1 1; A1 1", "A1 1"},
		// A text of none takes a cell out, also one that is none of the sheet's.
		{"A1 ", ""},
		{"A1 1; A1 ", ""},
		{"A1 ; A1 1", "A1 1"},
		{"A1 1; B1 2; A1 ; A1 ", "B1 2"},
		{"A1 1; A1 ; A1 3; C9 ", "A1 3"},
		// Formulas keep their texts, and circles are lawful.
		{"A1 =B1; B1 =A1+1; C1 = ( 1 ) ", "A1 =B1; B1 =A1+1; C1 = ( 1 ) "},
		{"A1 1; A1 =Z99; A1 \x00\xff", "A1 \x00\xff"},
	} {
		b := logged(filled(c.log))
		wantOpened(t, b, filled(c.want), len(b))
	}
}

// TestB2Written: what is written is opened as it was, whole.
func TestB2Written(t *testing.T) {
	for _, l := range [][]api.Filled{
		nil, filled("A1 1"), filled("Z99 =Z99"), filled("A1 =B1; B1 =A1; C3 x y; A9 \n"),
		full("1"), full("=SUM(A1:Z99)"), full(strings.Repeat("\xff", 200)), full("=" + strings.Repeat("-", 30) + "1"),
	} {
		b, err := book.Write(l)
		if err != nil {
			t.Fatal(err)
		}
		wantOpened(t, b, l, len(b))
		// What is written twice says nothing else.
		wantOpened(t, slices.Repeat(b, 3), l, 3*len(b))
	}
}

// TestB2Cut: of a book that breaks off all whole entries count.
func TestB2Cut(t *testing.T) {
	log := filled("B2 =A1; A1 1; A1 " + strings.Repeat("x", 200) + "; B2 ; C1 \x01\x01\x00\x3f\x15; F39 0; A1 9")
	b := logged(log)
	whole, next := 0, 0
	var l []api.Filled
	for cut := range len(b) + 1 {
		if next < len(log) && cut == whole+len(log[next].Text)+5 {
			whole = cut
			l = after(l, log[next])
			next++
		}
		wantOpened(t, b[:cut], l, whole)
		// What lies behind a list's length is none of it.
		wantOpened(t, b[:cut:cut], l, whole)
	}
	if next != len(log) {
		t.Errorf("%d of %d entries were whole", next, len(log))
	}
}

// TestB2Spoilt: an entry in which any one byte is another one does not count, nor does what stands behind it.
func TestB2Spoilt(t *testing.T) {
	log := filled("B2 =A1; A1 1; C1 ; F39 0; A1 x")
	b := logged(log)
	from := 0
	var l []api.Filled
	for _, f := range log {
		long := len(f.Text) + 5
		for i := from; i < from+long; i++ {
			for by := 1; by < 256; by++ {
				spoilt := slices.Clone(b)
				spoilt[i] += byte(by)
				wantOpened(t, spoilt, l, from)
			}
		}
		l = after(l, f)
		from += long
	}
	wantOpened(t, b, l, len(b))
}

// TestB2Sum: the two bytes of a sum, and no other ones.
func TestB2Sum(t *testing.T) {
	for _, none := range [][]byte{
		{0}, {1, 1}, {1, 1, 0}, {1, 1, 0, 63}, {0, 0, 0, 0, 0}, {255, 255, 255, 255, 255},
		{1, 1, 0, 0, 0}, {2, 1, 2, 49, 52}, {2, 1, 2, 49, 52, 69},
		// The high one first; one of both alone; of the text alone.
		{2, 1, 2, 49, 52, 75, 69}, {2, 1, 2, 49, 52, 69, 0}, {2, 1, 2, 49, 52, 0, 75}, {1, 1, 1, 49, 50, 1},
		// A sum is less than 65521.
		{6, 39, 1, 48, 241, 255}, {6, 39, 1, 57, 250, 255},
	} {
		wantOpened(t, none, nil, 0)
		wantOpened(t, append([]byte{1, 1, 1, 49, 172, 86}, none...), filled("A1 1"), 6)
		wantOpened(t, append(none, 1, 1, 1, 49, 172, 86), nil, 0)
	}
}

// TestB2Refused: an entry that is whole, but not taken, ends what counts.
func TestB2Refused(t *testing.T) {
	good := logged(filled("A1 1; B1 2"))
	refused := func(e []byte) {
		t.Helper()
		wantOpened(t, e, nil, 0)
		wantOpened(t, slices.Concat(good, e, logged(filled("A1 9; C1 3"))), filled("A1 1; B1 2"), len(good))
	}
	for _, text := range []string{"", "1", "="} {
		for _, n := range []byte{0, 27, 128, 255} {
			refused(framed(n, 1, text))
		}
		for _, n := range []byte{0, 100, 128, 255} {
			refused(framed(1, n, text))
		}
		refused(framed(0, 0, text))
	}
	for long := 201; long < 256; long++ {
		refused(framed(1, 1, strings.Repeat("x", long)))
		refused(framed(1, 1, "=1"+strings.Repeat(" ", long-2)))
	}
	for _, text := range []string{"=", "=1+", "=a1", "=A100", "=A1:A2", `="x`, "=\x00", "=" + strings.Repeat("-", api.MaxDepth+1) + "1"} {
		refused(framed(1, 1, text))
	}
}

// TestB2Full: there are never more than MaxCells cells, but so many at any time.
func TestB2Full(t *testing.T) {
	most := full("1")
	b := logged(most)
	more := func(log string) []byte { return slices.Concat(b, logged(filled(log))) }
	wantOpened(t, b, most, len(b))
	wantOpened(t, more("Z99 1; A1 2"), most, len(b))
	wantOpened(t, more("S8 1; A1 "), most, len(b))
	wantOpened(t, more("S8 =; A1 "), most, len(b))
	// A cell of the sheet may have another text, one that is none of it a text of none.
	wantOpened(t, more("A1 2; R8 3; Z99 4"), after(after(most, filled("A1 2")[0]), filled("R8 3")[0]), len(b)+12)
	wantOpened(t, more("Z99 ; S8 "), most, len(b)+10)
	// One that is gone makes room for one.
	swapped := append(most[1:200:200], filled("Z99 7")...)
	wantOpened(t, more("A1 ; Z99 7; A1 1; B1 9"), swapped, len(b)+11)
	wantOpened(t, more("Z99 ; A1 ; Z99 6; Z99 7; A1 1; B1 9"), swapped, len(b)+22)
	// Others may be gone, as long as no more are there at once.
	var turn []api.Filled
	for row := 1; row <= 99; row++ {
		for col := 1; col <= 26; col++ {
			c := api.Cell{Col: col, Row: row}
			turn = append(turn, api.Filled{Cell: c, Text: "x"}, api.Filled{Cell: c})
		}
	}
	wantOpened(t, logged(turn), nil, 99*26*11)
}

// TestB2Pack: as many entries as cells, and a book goes on behind them as it went on.
func TestB2Pack(t *testing.T) {
	for _, c := range []struct {
		log  string
		want []byte
	}{
		{"B1 14; B1 15; B1 14", []byte{2, 1, 2, 49, 52, 69, 75}},
		{"B1 14; A1 1", []byte{1, 1, 1, 49, 172, 86, 2, 1, 2, 49, 52, 69, 75}},
		{"A1 1; A1 ", nil},
		{"A1 1; C1 2; C1 ; B1 14", []byte{1, 1, 1, 49, 172, 86, 2, 1, 2, 49, 52, 69, 75}},
	} {
		b := logged(filled(c.log))
		for _, piece := range [][]byte{nil, {9}, {1, 1, 0, 0, 0}, framed(1, 1, "="), append(framed(27, 1, "1"), framed(1, 1, "2")...)} {
			if got, err := book.Pack(slices.Concat(b, piece)); !bytes.Equal(got, c.want) || err != nil {
				t.Errorf("Pack of %s, %v behind it: %v, %v; want %v", c.log, piece, got, err, c.want)
			}
		}
		on := logged(filled("B1 ; D4 =A1; A1 2; D4 5; A1 "))
		packed, _ := book.Pack(b)
		long, _ := book.Open(slices.Concat(b, on))
		short, n := book.Open(slices.Concat(packed, on))
		if !slices.Equal(short, long) || n != len(packed)+len(on) {
			t.Errorf("behind Pack of %s: %s, %d; want %s, %d", c.log, listed(short), n, listed(long), len(packed)+len(on))
		}
	}
	for _, none := range [][]byte{nil, {}, {1}, make([]byte, 1000), bytes.Repeat([]byte{1}, 1000)} {
		if got, err := book.Pack(none); len(got) != 0 || err != nil {
			t.Errorf("Pack of %s: %s, %v", brief(none), brief(got), err)
		}
	}
}

// TestB2Long: a book may have far more entries than a sheet has cells. No cell is worked out on the way, though each of them hangs on all.
func TestB2Long(t *testing.T) {
	l := full("=SUM(A1:Z99)")
	b := slices.Repeat(logged(l), 500)
	wantOpened(t, b, l, len(b))
	b = append(b, slices.Repeat(logged(filled("A1 ; A1 1")), 1<<17)...)
	wantOpened(t, b, after(l, filled("A1 1")[0]), len(b))
}

// Nothing that is handed in is kept, what lies behind its length is neither read nor written, and what comes out is the caller's.
func TestB2Fresh(t *testing.T) {
	const text = "A1 =A2; B1 2"
	behind := logged(filled(text + "; Z99 3"))
	b := behind[:len(behind)-6]
	was := slices.Clone(behind)
	l, n := book.Open(b)
	packed, err := book.Pack(b)
	if listed(l) != text || n != len(b) || !bytes.Equal(packed, b) || err != nil {
		t.Fatalf("%s, %d, %v, %v", listed(l), n, packed, err)
	}
	for i := range l[:cap(l)] {
		l[:cap(l)][i].Cell = api.Cell{}
	}
	spoil(packed)
	if !bytes.Equal(behind, was) {
		t.Errorf("what was handed in was written into: %v; it was %v", behind, was)
	}
	l, _ = book.Open(b)
	packed, _ = book.Pack(b)
	spoil(behind)
	if listed(l) != text || !bytes.Equal(packed, was[:len(b)]) {
		t.Errorf("what was handed in was kept: %s, %v", listed(l), packed)
	}
}
