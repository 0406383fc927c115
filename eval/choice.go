package eval

import (
	"cmp"

	"sccsettle/api"
	"sccsettle/value"
)

// maxPower is how often a number may be multiplied by itself.
const maxPower = 64

// ofChoice has the functions that leave arguments be, or for which what is bad is no answer.
func ofChoice(name string) function {
	switch name {
	case "IF":
		return function{2, 3, choose}
	case "IFBAD":
		return function{2, 2, unlessBad}
	case "CHOOSE":
		return function{2, anyMany, numbered}
	case "BADP":
		return asking(isBad)
	case "BLANKP":
		return asking(func(v api.Value) bool { return v.Kind == api.Blank })
	case "NUMP":
		return asking(func(v api.Value) bool { return v.Kind == api.Number })
	case "NONE":
		return function{0, 0, func(call) api.Value { return bad(api.BadNone) }}
	}
	return function{}
}

func asking(is func(v api.Value) bool) function {
	return function{1, 1, func(c call) api.Value { return truth(is(c.value(0))) }}
}

func choose(c call) api.Value {
	which := value.Truth(c.value(0))
	switch {
	case isBad(which):
		return which
	case which.Num == 1:
		return c.value(1)
	case len(c.nodes) == 2:
		return truth(false)
	}
	return c.value(2)
}

func unlessBad(c call) api.Value {
	if v := c.value(0); !isBad(v) {
		return v
	}
	return c.value(1)
}

func numbered(c call) api.Value {
	which := value.Number(c.value(0))
	if isBad(which) {
		return which
	}
	if which.Num < 1 || which.Num >= len(c.nodes) {
		return bad(api.BadValue)
	}
	return c.value(which.Num)
}

// ofNumbers has the functions that reckon with one number or two.
func ofNumbers(name string) function {
	switch name {
	case "NOT":
		return taking("v", func(a []argument) api.Value { return not(a[0].value) })
	case "ABS":
		return taking("n", func(a []argument) api.Value { return abs(a[0].number) })
	case "SIGN":
		return taking("n", func(a []argument) api.Value { return number(cmp.Compare(a[0].number, 0)) })
	case "MOD":
		return taking("vv", func(a []argument) api.Value { return value.Mod(a[0].value, a[1].value) })
	case "POWER":
		return taking("nn", func(a []argument) api.Value { return power(a[0].number, a[1].number) })
	}
	return function{}
}

func not(v api.Value) api.Value {
	is := value.Truth(v)
	if isBad(is) {
		return is
	}
	return truth(is.Num == 0)
}

func abs(n int) api.Value {
	if n < 0 {
		return value.Neg(number(n))
	}
	return number(n)
}

func power(n, times int) api.Value {
	if times < 0 || times > maxPower {
		return bad(api.BadNum)
	}
	product := number(1)
	for range times {
		product = value.Two(api.Mul, product, number(n))
	}
	return product
}
