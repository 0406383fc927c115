package find

import "sccsettle/api"

// piece of a mask: any number of bytes, any byte, or one that is itself.
type piece struct {
	anyMany, anyOne bool
	itself          byte
}

// ends tells of each beginning of a text, by its length, whether it is of the mask as far as that was gone through. All are kept at once, so that no `*` is tried again for each one ahead of it.
type ends [api.MaxText + 1]bool

// Like tells whether a text is of a mask.
func Like(text, mask string) (bool, error) {
	if len(text) > api.MaxText || len(mask) > api.MaxText {
		return false, api.ErrFull
	}
	pieces, err := readMask(mask)
	if err != nil {
		return false, err
	}
	reached := ends{0: true}
	for _, p := range pieces {
		reached = p.from(reached, text)
	}
	return reached[len(text)], nil
}

// readMask reads all of a mask ahead of any text, since one that is none is so whatever the text.
func readMask(mask string) ([]piece, error) {
	var pieces []piece
	escaped := false
	for at := range len(mask) {
		letter := mask[at]
		switch {
		case escaped:
			pieces = append(pieces, piece{itself: letter})
			escaped = false
		case letter == '~':
			escaped = true
		case letter == '*':
			pieces = append(pieces, piece{anyMany: true})
		case letter == '?':
			pieces = append(pieces, piece{anyOne: true})
		default:
			pieces = append(pieces, piece{itself: letter})
		}
	}
	if escaped {
		return nil, api.ErrSyntax
	}
	return pieces, nil
}

func (p piece) from(reached ends, text string) ends {
	if p.anyMany {
		return onFrom(reached, text)
	}
	var next ends
	for at := range len(text) {
		next[at+1] = reached[at] && (p.anyOne || p.itself == text[at])
	}
	return next
}

// onFrom has all ends from the first one on that was reached.
func onFrom(reached ends, text string) ends {
	for at := range len(text) {
		reached[at+1] = reached[at+1] || reached[at]
	}
	return reached
}
