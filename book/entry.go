package book

import "sccsettle/api"

// How many bytes of an entry stand ahead of its text, and behind it.
const (
	head = 3
	tail = 2
)

// put writes an entry behind bytes. All its numbers have to be bytes, which is the caller's to ask.
func put(b []byte, f api.Filled) []byte {
	from := len(b)
	b = append(b, byte(f.Cell.Col), byte(f.Cell.Row), byte(len(f.Text)))
	b = append(b, f.Text...)
	s := sum(b[from:])
	return append(b, byte(s), byte(s>>8))
}

// first is the entry that bytes begin with, and how many it has: none, if it is not whole, or has another sum. Whether a sheet may have it is not asked.
func first(b []byte) (api.Filled, int) {
	if len(b) < head {
		return api.Filled{}, 0
	}
	end := head + int(b[2])
	if len(b) < end+tail || sum(b[:end]) != int(b[end])+int(b[end+1])<<8 {
		return api.Filled{}, 0
	}
	// The text is a copy of its own, so that it does not hold the whole book.
	return api.Filled{Cell: api.Cell{Col: int(b[0]), Row: int(b[1])}, Text: string(b[head:end])}, end + tail
}

func sum(b []byte) int {
	s := 1
	for _, c := range b {
		s = (s*257 + int(c)) % 65521
	}
	return s
}
