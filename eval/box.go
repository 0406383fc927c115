package eval

import (
	"sccsettle/api"
	"sccsettle/value"
)

// grid is a box with the values of its cells; its rows and columns are counted from 1 on.
type grid struct {
	known Values
	box   api.Box
}

func (g grid) rows() int { return g.box.To.Row - g.box.From.Row + 1 }

func (g grid) cols() int { return g.box.To.Col - g.box.From.Col + 1 }

// has is asked of any numbers: they are held against the bounds ahead of any sum.
func (g grid) has(row, col int) bool {
	return 1 <= row && row <= g.rows() && 1 <= col && col <= g.cols()
}

func (g grid) at(row, col int) api.Value {
	return g.known[api.Cell{Col: g.box.From.Col + col - 1, Row: g.box.From.Row + row - 1}]
}

// values of all cells, row by row, each with its number, from 1 on.
func (g grid) values(yield func(number int, v api.Value) bool) {
	number := 0
	for row := range g.rows() {
		for col := range g.cols() {
			number++
			if !yield(number, g.at(row+1, col+1)) {
				return
			}
		}
	}
}

// numbered is the value of a cell by its number.
func (g grid) numbered(number int) api.Value {
	return g.at((number-1)/g.cols()+1, (number-1)%g.cols()+1)
}

// ofBoxes has the functions that look into boxes.
func ofBoxes(name string) function {
	switch name {
	case "ROWS":
		return taking("b", func(a []argument) api.Value { return number(a[0].grid.rows()) })
	case "COLS":
		return taking("b", func(a []argument) api.Value { return number(a[0].grid.cols()) })
	case "INDEX":
		return taking("bnn", func(a []argument) api.Value { return index(a[0].grid, a[1].number, a[2].number) })
	case "MATCH":
		return taking("vb", func(a []argument) api.Value { return match(a[0].value, a[1].grid) })
	case "LOOKUP":
		return taking("vbn", func(a []argument) api.Value { return lookup(a[0].value, a[1].grid, a[2].number) })
	case "COUNTIF":
		return taking("bv", func(a []argument) api.Value { return countIf(a[0].grid, a[1].value) })
	case "SUMIF":
		return taking("bvb", func(a []argument) api.Value { return sumIf(a[0].grid, a[1].value, a[2].grid) })
	}
	return function{}
}

func index(g grid, row, col int) api.Value {
	if !g.has(row, col) {
		return bad(api.BadRef)
	}
	return g.at(row, col)
}

// equalTo asks by Two, to which what is bad is no truth, and so equal to nothing.
func equalTo(v api.Value) func(other api.Value) bool {
	return func(other api.Value) bool { return value.Two(api.Equal, other, v) == truth(true) }
}

func match(v api.Value, g grid) api.Value {
	isWanted := equalTo(v)
	for at, other := range g.values {
		if isWanted(other) {
			return number(at)
		}
	}
	return bad(api.BadNone)
}

func lookup(v api.Value, g grid, col int) api.Value {
	if !g.has(1, col) {
		return bad(api.BadRef)
	}
	isWanted := equalTo(v)
	for row := 1; row <= g.rows(); row++ {
		if isWanted(g.at(row, 1)) {
			return g.at(row, col)
		}
	}
	return bad(api.BadNone)
}

func countIf(g grid, v api.Value) api.Value {
	isWanted := equalTo(v)
	many := 0
	for _, other := range g.values {
		if isWanted(other) {
			many++
		}
	}
	return number(many)
}

func sumIf(g grid, v api.Value, summed grid) api.Value {
	if g.rows() != summed.rows() || g.cols() != summed.cols() {
		return bad(api.BadValue)
	}
	isWanted := equalTo(v)
	return overNumbers(sum)(func(yield func(v api.Value, boxed bool) bool) {
		for at, other := range g.values {
			if isWanted(other) && !yield(summed.numbered(at), true) {
				return
			}
		}
	})
}
