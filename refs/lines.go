package refs

import (
	"sccsettle/api"
	"sccsettle/formula"
)

// lines are the rows, or the columns, of a sheet.
type lines struct {
	count int
	of    func(r api.Ref) int
	carry func(r api.Ref, by int) (api.Ref, bool)
}

func linesOf(row bool) lines {
	if row {
		return lines{
			count: api.MaxRow,
			of:    func(r api.Ref) int { return r.Cell.Row },
			carry: func(r api.Ref, by int) (api.Ref, bool) { return carry(r, 0, by) },
		}
	}
	return lines{
		count: api.MaxCol,
		of:    func(r api.Ref) int { return r.Cell.Col },
		carry: func(r api.Ref, by int) (api.Ref, bool) { return carry(r, by, 0) },
	}
}

// CheckLines tells whether so many rows, or columns, may come in ahead of the one numbered at, or go from it on, whatever formulas there are.
func CheckLines(row bool, at, many int) error {
	count := linesOf(row).count
	if at < 1 || at > count || many < 0 || many > count {
		return api.ErrRange
	}
	return nil
}

func checkWithLines(n api.Node, row bool, at, many int) error {
	if err := formula.Check(n); err != nil {
		return err
	}
	return CheckLines(row, at, many)
}

// insertion makes room ahead of the line numbered at.
func insertion(l lines, at, many int) change {
	return cornerwise(func(r api.Ref) (api.Ref, bool) {
		if l.of(r) < at {
			return r, true
		}
		return l.carry(r, many)
	})
}

// deletion takes away the line numbered at, and those behind it, as many in all.
func deletion(l lines, at, many int) change {
	left := func(r api.Ref) (api.Ref, bool) {
		switch line := l.of(r); {
		case line < at:
			return r, true
		case line < at+many:
			return r, false
		}
		return l.carry(r, -many)
	}
	// The other corner is left, so the line next to those that are gone, towards it, is of the box, and is left too.
	towards := func(gone, other api.Ref) (api.Ref, bool) {
		if l.of(gone) < l.of(other) {
			return l.carry(gone, at-l.of(gone))
		}
		return l.carry(gone, at-1-l.of(gone))
	}
	return change{
		ref: left,
		box: func(a, b api.Ref) (api.Ref, api.Ref, bool) {
			newA, okA := left(a)
			newB, okB := left(b)
			switch {
			case okA && !okB:
				newB, okB = towards(b, a)
			case okB && !okA:
				newA, okA = towards(a, b)
			}
			return newA, newB, okA && okB
		},
	}
}
