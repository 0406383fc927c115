package book_test

import (
	"math/big"
	"math/rand/v2"
	"slices"
	"strings"
	"testing"

	"sccsettle/api"
	"sccsettle/book"
	"sccsettle/settle"
	"sccsettle/sheet"
)

// framed is an entry of any two numbers and any text that bytes can tell. Its sum is that of a one and the bytes behind it as digits, to the base of 257.
func framed(col, row byte, text string) []byte {
	b := append([]byte{col, row, byte(len(text))}, text...)
	s := big.NewInt(1)
	for _, c := range b {
		s.Add(s.Mul(s, big.NewInt(257)), big.NewInt(int64(c)))
	}
	s.Mod(s, big.NewInt(65521))
	return append(b, byte(s.Int64()%256), byte(s.Int64()/256))
}

// after is a sheet in which a cell has another text.
func after(l []api.Filled, f api.Filled) (next []api.Filled) {
	for row := 1; row <= 99; row++ {
		for col := 1; col <= 26; col++ {
			c := api.Cell{Col: col, Row: row}
			if c == f.Cell {
				if f.Text != "" {
					next = append(next, f)
				}
				continue
			}
			for _, o := range l {
				if o.Cell == c {
					next = append(next, o)
				}
			}
		}
	}
	return next
}

// opened does the entries on a Sheet of chapter 8; an entry is one if it is written as the bytes stand.
func opened(b []byte) (s *sheet.Sheet, long, entries int) {
	s = sheet.New()
	for len(b)-long >= 5 {
		rest := b[long:]
		text := rest[3:]
		if len(text) < int(rest[2])+2 {
			break
		}
		text = text[:rest[2]]
		e := framed(rest[0], rest[1], string(text))
		if !slices.Equal(e, rest[:len(e)]) {
			break
		}
		if s.Set(api.Cell{Col: int(rest[0]), Row: int(rest[1])}, string(text)) != nil {
			break
		}
		long += len(e)
		entries++
	}
	return s, long, entries
}

// drawer draws cells of a box from A1 on.
type drawer struct {
	*rand.Rand
	wide, high int
}

func (d drawer) one(l ...string) string { return l[d.IntN(len(l))] }

// entry is mostly one that a sheet takes.
func (d drawer) entry() []byte {
	col, row := byte(1+d.IntN(d.wide)), byte(1+d.IntN(d.high))
	text := d.one("", "", "1", "2", "x", "=A1", "=B2+1", "a\nb", "\x00\xff", " =")
	switch d.IntN(150) {
	case 0:
		col = byte(d.IntN(256))
	case 1:
		row = byte(d.IntN(256))
	case 2:
		text = d.one("=", "=1+", "=A100", "=a1")
	case 3:
		text = strings.Repeat("x", 190+d.IntN(66))
	case 4:
		text = "=" + strings.Repeat("-", 20+d.IntN(20)) + "1"
	}
	return framed(col, row, text)
}

func (d drawer) book(most int) (b []byte) {
	for range d.IntN(most + 1) {
		b = append(b, d.entry()...)
	}
	return b
}

// harm changes a byte, puts one in, takes some out, or cuts the end off.
func (d drawer) harm(b []byte) []byte {
	if len(b) == 0 {
		return []byte{byte(d.IntN(4))}
	}
	i := d.IntN(len(b))
	switch d.IntN(4) {
	case 0:
		b[i] ^= 1 << d.IntN(8)
		return b
	case 1:
		return slices.Insert(b, i, byte(d.IntN(256)))
	case 2:
		return slices.Delete(b, i, min(len(b), i+1+d.IntN(9)))
	}
	return b[:i]
}

// TestB2Judged holds drawn books, some of them harmed, against the judge; some sheets are small, and some are nearly full.
func TestB2Judged(t *testing.T) {
	r := rand.New(rand.NewPCG(17, 1))
	whole, broken, deep := 0, 0, 0
	for i := range 4000 {
		d := drawer{r, 3, 3}
		if i%4 == 0 {
			d = drawer{r, 26, 99}
		}
		b := d.book(30)
		if d.IntN(2) == 0 {
			b = d.harm(b)
		}
		s, long, entries := opened(b)
		wantOpened(t, b, s.List(), long)
		if long == len(b) {
			whole++
		} else {
			broken++
		}
		deep = max(deep, entries)
	}
	if min(whole, broken) < 1000 || deep < 25 {
		t.Errorf("%d books were whole, %d were not, of up to %d entries", whole, broken, deep)
	}
}

// TestB2JudgedFull holds books of sheets that are full, or nearly so, against the judge.
func TestB2JudgedFull(t *testing.T) {
	d := drawer{rand.New(rand.NewPCG(17, 2)), 15, 14}
	crowded := 0
	for range 40 {
		var b []byte
		for _, f := range full("1")[d.IntN(20):] {
			b = append(b, framed(byte(f.Cell.Col), byte(f.Cell.Row), f.Text)...)
		}
		for range d.IntN(80) {
			text := d.one("", "1", "2", "x", "y")
			b = append(b, framed(byte(1+d.IntN(26)), byte(1+d.IntN(9)), text)...)
		}
		s, long, _ := opened(b)
		wantOpened(t, b, s.List(), long)
		if long < len(b) {
			crowded++
		}
	}
	if crowded < 5 || crowded > 35 {
		t.Errorf("%d books of 40 had too many cells", crowded)
	}
}

// TestB2Noise: bytes that nobody wrote.
func TestB2Noise(t *testing.T) {
	r := rand.New(rand.NewPCG(17, 3))
	for range 20000 {
		b := make([]byte, r.IntN(40))
		for i := range b {
			b[i] = byte(r.IntN(1 + r.IntN(256)))
		}
		s, long, _ := opened(b)
		wantOpened(t, b, s.List(), long)
	}
}

// TestB2Values: what a sheet comes to does not hang on how it was kept.
func TestB2Values(t *testing.T) {
	d := drawer{rand.New(rand.NewPCG(17, 4)), 4, 4}
	for range 300 {
		b := d.book(40)
		s, _, _ := opened(b)
		packed, err := book.Pack(b)
		if err != nil {
			t.Fatal(err)
		}
		l, _ := book.Open(packed)
		all, err := settle.All(l)
		if !slices.Equal(all, s.All()) || err != nil {
			t.Fatalf("%s comes to %v, %v; want %v", listed(l), all, err, s.All())
		}
	}
}
