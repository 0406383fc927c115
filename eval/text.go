package eval

import (
	"strings"

	"sccsettle/api"
	"sccsettle/value"
)

// ofTexts has the functions of values as they are shown.
func ofTexts(name string) function {
	switch name {
	case "LEN":
		return taking("t", func(a []argument) api.Value { return number(len(a[0].text)) })
	case "LEFT":
		return taking("tn", func(a []argument) api.Value { return middle(a[0].text, 1, a[1].number) })
	case "RIGHT":
		return taking("tn", func(a []argument) api.Value { return right(a[0].text, a[1].number) })
	case "MID":
		return taking("tnn", func(a []argument) api.Value { return middle(a[0].text, a[1].number, a[2].number) })
	case "UPPER":
		return taking("t", func(a []argument) api.Value { return text(shifted(a[0].text, 'a', 'A')) })
	case "LOWER":
		return taking("t", func(a []argument) api.Value { return text(shifted(a[0].text, 'A', 'a')) })
	case "FIND":
		return taking("tt", func(a []argument) api.Value { return find(a[0].text, a[1].text) })
	case "REPT":
		return taking("tn", func(a []argument) api.Value { return repeated(a[0].text, a[1].number) })
	case "EXACT":
		return taking("tt", func(a []argument) api.Value { return truth(a[0].text == a[1].text) })
	case "VALUE":
		return taking("t", func(a []argument) api.Value { return value.Number(text(a[0].text)) })
	}
	return function{}
}

// middle never adds up its numbers, since they may be of any size.
func middle(t string, from, many int) api.Value {
	if from < 1 || many < 0 {
		return bad(api.BadValue)
	}
	t = t[min(from-1, len(t)):]
	return text(t[:min(many, len(t))])
}

func right(t string, many int) api.Value {
	if many < 0 {
		return bad(api.BadValue)
	}
	return text(t[len(t)-min(many, len(t)):])
}

// shifted goes byte by byte, so that what is no letter, or no rune, stays as it is.
func shifted(t string, from, to byte) string {
	b := []byte(t)
	for i, letter := range b {
		if from <= letter && letter <= from+('z'-'a') {
			b[i] = letter - from + to
		}
	}
	return string(b)
}

func find(part, whole string) api.Value {
	at := strings.Index(whole, part)
	if at < 0 {
		return bad(api.BadValue)
	}
	return number(at + 1)
}

func repeated(t string, times int) api.Value {
	if times < 0 {
		return bad(api.BadValue)
	}
	if t == "" {
		return text("")
	}
	if times > api.MaxText/len(t) {
		return bad(api.BadValue)
	}
	return text(strings.Repeat(t, times))
}
