// Package value has what may stand in a cell.
package value

import (
	"strconv"

	"sccsettle/api"
)

const (
	trueText  = "TRUE"
	falseText = "FALSE"
)

// badTexts stand in the order of the numbers, from BadDiv on.
var badTexts = [6]string{"#DIV!", "#VALUE!", "#REF!", "#NAME!", "#NUM!", "#NONE!"}

// Check tells whether a value is one.
func Check(v api.Value) error {
	if !isValue(v) {
		return api.ErrRange
	}
	return nil
}

func isValue(v api.Value) bool {
	switch v.Kind {
	case api.Blank:
		return v.Num == 0 && v.Text == ""
	case api.Number:
		return v.Text == ""
	case api.Text:
		return v.Num == 0 && len(v.Text) <= api.MaxText
	case api.Truth:
		return (v.Num == 0 || v.Num == 1) && v.Text == ""
	case api.Bad:
		return isBadNum(v.Num) && v.Text == ""
	}
	return false
}

func isBadNum(n int) bool { return api.BadDiv <= n && n <= api.BadNone }

// Show shows a value.
func Show(v api.Value) string {
	switch v.Kind {
	case api.Number:
		return strconv.Itoa(v.Num)
	case api.Text:
		return v.Text
	case api.Truth:
		return showTruth(v.Num)
	case api.Bad:
		return showBad(v.Num)
	}
	return ""
}

func showTruth(n int) string {
	if n == 0 {
		return falseText
	}
	return trueText
}

// showBad is asked of any number, since Show takes values that are none, too.
func showBad(n int) string {
	if !isBadNum(n) {
		return ""
	}
	return badTexts[n-api.BadDiv]
}

// Read reads a text without a formula.
func Read(s string) api.Value {
	if s == "" {
		return api.Value{}
	}
	if len(s) > api.MaxText {
		return bad(api.BadValue)
	}
	if n, ok := readNumber(s); ok {
		return number(n)
	}
	if s == trueText || s == falseText {
		return truth(s == trueText)
	}
	if n, ok := readBad(s); ok {
		return bad(n)
	}
	return text(s)
}

// readNumber holds the text against the number's own digits, since Atoi also takes a `+`, `-0` and a needless 0.
func readNumber(s string) (int, bool) {
	n, err := strconv.Atoi(s)
	if err != nil || strconv.Itoa(n) != s {
		return 0, false
	}
	return n, true
}

func readBad(s string) (int, bool) {
	for i, t := range badTexts {
		if s == t {
			return api.BadDiv + i, true
		}
	}
	return 0, false
}

// Number makes one of a value.
func Number(v api.Value) api.Value {
	switch v.Kind {
	case api.Number, api.Bad:
		return v
	case api.Blank:
		return number(0)
	case api.Truth:
		return number(v.Num)
	case api.Text:
		return readAs(api.Number, v.Text)
	}
	return bad(api.BadValue)
}

// Truth makes one of a value.
func Truth(v api.Value) api.Value {
	switch v.Kind {
	case api.Truth, api.Bad:
		return v
	case api.Blank:
		return truth(false)
	case api.Number:
		return truth(v.Num != 0)
	case api.Text:
		return readAs(api.Truth, v.Text)
	}
	return bad(api.BadValue)
}

// readAs takes what Read makes of a text only if it is of the kind that is asked for.
func readAs(kind int, s string) api.Value {
	v := Read(s)
	if v.Kind != kind {
		return bad(api.BadValue)
	}
	return v
}

func number(n int) api.Value { return api.Value{Kind: api.Number, Num: n} }

func text(s string) api.Value { return api.Value{Kind: api.Text, Text: s} }

func truth(is bool) api.Value {
	if is {
		return api.Value{Kind: api.Truth, Num: 1}
	}
	return api.Value{Kind: api.Truth}
}

func bad(n int) api.Value { return api.Value{Kind: api.Bad, Num: n} }
