package format

import (
	"strconv"
	"strings"

	"sccsettle/api"
)

const (
	maxCode   = 40 // bytes of a code
	maxPlaces = 6  // digits behind the point
	quote     = `"`
	commaSign = "#,"
	percent   = "%"
)

// look is what a code says of numbers.
type look struct {
	ahead   string
	byThree bool
	digits  int // at least so many ahead of the point
	places  int // just so many behind it; without a point, if there are none
	behind  string
}

// readCode takes part by part off the code. What a part cannot be stays, so that the next part, or the end, is missed.
func readCode(code string) (look, error) {
	if len(code) > maxCode {
		return look{}, api.ErrSyntax
	}
	var l look
	l.ahead, code = cutQuoted(code)
	code, l.byThree = strings.CutPrefix(code, commaSign)
	l.digits, code = cutZeros(code)
	l.places, code = cutPlaces(code)
	l.behind, code = cutBehind(code)
	if l.digits == 0 || code != "" {
		return look{}, api.ErrSyntax
	}
	return l, nil
}

func cutQuoted(code string) (inside, rest string) {
	if opened, ok := strings.CutPrefix(code, quote); ok {
		if inside, rest, ok = strings.Cut(opened, quote); ok {
			return inside, rest
		}
	}
	return "", code
}

func cutZeros(code string) (many int, rest string) {
	rest = strings.TrimLeft(code, "0")
	return len(code) - len(rest), rest
}

func cutPlaces(code string) (places int, rest string) {
	if behindPoint, ok := strings.CutPrefix(code, "."); ok {
		if places, rest = cutZeros(behindPoint); 1 <= places && places <= maxPlaces {
			return places, rest
		}
	}
	return 0, code
}

func cutBehind(code string) (behind, rest string) {
	if after, ok := strings.CutPrefix(code, percent); ok {
		return percent, after
	}
	return cutQuoted(code)
}

func (l look) show(n int) string {
	// The sign is taken off the text, since the least number has no positive one beside it.
	digits, isBelow := strings.CutPrefix(strconv.Itoa(n), "-")
	digits = zerosAhead(digits, l.digits+l.places)
	point := len(digits) - l.places
	whole, parts := digits[:point], digits[point:]
	if l.byThree {
		whole = commasWithin(whole)
	}
	if l.places > 0 {
		parts = "." + parts
	}
	text := l.ahead + whole + parts + l.behind
	if isBelow {
		return "-" + text
	}
	return text
}

func zerosAhead(digits string, least int) string {
	return strings.Repeat("0", max(0, least-len(digits))) + digits
}

func commasWithin(digits string) string {
	var b strings.Builder
	for i := range len(digits) {
		if i > 0 && (len(digits)-i)%3 == 0 {
			b.WriteByte(',')
		}
		b.WriteByte(digits[i])
	}
	return b.String()
}
