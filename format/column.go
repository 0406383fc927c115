package format

import "sccsettle/api"

const (
	maxColumn  = 1000000
	maxLetters = 5 // of a column: four of them end at 475254
	alphabet   = 'Z' - 'A' + 1
)

// Column writes a column's letters.
func Column(col int) (string, error) {
	if col < 1 || col > maxColumn {
		return "", api.ErrRange
	}
	var letters [maxLetters]byte
	at := len(letters)
	// No letter stands for 0, as a digit does: so each one counts from 1, and what is left is one less.
	for left := col; left > 0; left = (left - 1) / alphabet {
		at--
		letters[at] = 'A' + byte((left-1)%alphabet)
	}
	return string(letters[at:]), nil
}

// Number reads them.
func Number(text string) (int, error) {
	col := 0
	for _, letter := range []byte(text) {
		if letter < 'A' || letter > 'Z' {
			return 0, api.ErrSyntax
		}
		col = col*alphabet + int(letter-'A') + 1
		// Left at once, so that no column of many letters wraps round to one that may be.
		if col > maxColumn {
			return 0, api.ErrSyntax
		}
	}
	if col == 0 {
		return 0, api.ErrSyntax
	}
	return col, nil
}
