package eval

import (
	"iter"
	"slices"

	"sccsettle/api"
	"sccsettle/value"
)

// Sum is SUM of values that stand in a box, row by row; it is asked of what Check of a value lets through.
func Sum(l []api.Value) api.Value {
	return overNumbers(sum)(func(yield func(v api.Value, boxed bool) bool) {
		for _, v := range l {
			if !yield(v, true) {
				return
			}
		}
	})
}

// items are values, each with whether it stands in a box.
type items = iter.Seq2[api.Value, bool]

// ofMany has the functions of many arguments, boxes among them.
func ofMany(name string) function {
	switch name {
	case "SUM":
		return takingMany(overNumbers(sum))
	case "MIN":
		return takingMany(overNumbers(least))
	case "MAX":
		return takingMany(overNumbers(greatest))
	case "AVG":
		return takingMany(overNumbers(average))
	case "COUNT":
		return takingMany(howMany(isCounted))
	case "COUNTA":
		return takingMany(howMany(isFilled))
	case "AND":
		return takingMany(overTruths(all))
	case "OR":
		return takingMany(overTruths(some))
	case "CAT":
		return takingMany(cat)
	}
	return function{}
}

func takingMany(work func(l items) api.Value) function {
	return function{1, anyMany, func(c call) api.Value { return work(c.items()) }}
}

// items are the cells of boxes, and what the other arguments come to, in turn.
func (c call) items() items {
	return func(yield func(v api.Value, boxed bool) bool) {
		for i := range c.nodes {
			g, is := c.grid(i)
			if !is {
				if !yield(c.value(i), false) {
					return
				}
				continue
			}
			for _, v := range g.values {
				if !yield(v, true) {
					return
				}
			}
		}
	}
}

// overNumbers works on what the document calls NUMBERS.
func overNumbers(work func(l []int) api.Value) func(l items) api.Value {
	counts := func(kind int) bool { return kind == api.Number }
	return over(counts, value.Number, work)
}

func overTruths(work func(l []int) api.Value) func(l items) api.Value {
	counts := func(kind int) bool { return kind == api.Number || kind == api.Truth }
	return over(counts, value.Truth, work)
}

// over works on what counts in boxes, and on all others, as they are read; the first that is bad is the answer.
func over(counts func(kind int) bool, read func(v api.Value) api.Value, work func(l []int) api.Value) func(l items) api.Value {
	return func(l items) api.Value {
		var nums []int
		for v, boxed := range l {
			if boxed && !isBad(v) && !counts(v.Kind) {
				continue
			}
			v = read(v)
			if isBad(v) {
				return v
			}
			nums = append(nums, v.Num)
		}
		return work(nums)
	}
}

func sum(l []int) api.Value {
	// What is bad stays so, whatever is added to it.
	total := number(0)
	for _, n := range l {
		total = value.Two(api.Add, total, number(n))
	}
	return total
}

func least(l []int) api.Value {
	if len(l) == 0 {
		return number(0)
	}
	return number(slices.Min(l))
}

func greatest(l []int) api.Value {
	if len(l) == 0 {
		return number(0)
	}
	return number(slices.Max(l))
}

// average of none is a division by 0.
func average(l []int) api.Value { return value.Two(api.Div, sum(l), number(len(l))) }

func all(l []int) api.Value {
	if len(l) == 0 {
		return bad(api.BadValue)
	}
	return truth(!slices.Contains(l, 0))
}

func some(l []int) api.Value {
	if len(l) == 0 {
		return bad(api.BadValue)
	}
	return truth(slices.Contains(l, 1))
}

func howMany(counts func(v api.Value, boxed bool) bool) func(l items) api.Value {
	return func(l items) api.Value {
		many := 0
		for v, boxed := range l {
			if counts(v, boxed) {
				many++
			}
		}
		return number(many)
	}
}

func isCounted(v api.Value, boxed bool) bool {
	if boxed {
		return v.Kind == api.Number
	}
	return !isBad(value.Number(v))
}

func isFilled(v api.Value, _ bool) bool { return v.Kind != api.Blank }

func cat(l items) api.Value {
	whole := text("")
	for v := range l {
		whole = value.Two(api.Cat, whole, v)
	}
	return whole
}
