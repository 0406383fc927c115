package settle

import (
	"maps"

	"sccsettle/api"
	"sccsettle/eval"
	"sccsettle/formula"
	"sccsettle/graph"
	"sccsettle/value"
)

// Part works out a part of a sheet, by the values of all that it hangs on outside of it: what becomes of its cells, as they stand, and how many times a formula was worked out. The values stay as they are.
func Part(p graph.Part, values eval.Values) (shown []api.Shown, count int) {
	if p.Circular {
		return circle(p.Members, values)
	}
	for _, m := range p.Members {
		v := value.Read(m.Text)
		if !formula.Constant(m.Text) {
			v = values.Of(m.Formula)
			count++
		}
		shown = append(shown, api.Shown{Cell: m.Cell, Value: v})
	}
	return shown, count
}

// circle works out cells, all of them blank at first, round by round.
func circle(members []graph.Member, outside eval.Values) (shown []api.Shown, count int) {
	values := eval.Values{}
	maps.Copy(values, outside)
	for _, m := range members {
		delete(values, m.Cell)
	}
	state, last := rounds(members, values)
	for _, m := range members {
		shown = append(shown, api.Shown{Cell: m.Cell, Value: values[m.Cell], State: state, Round: last})
	}
	return shown, last * len(members)
}

// rounds go on till one changes nothing, or there were enough; which was the last?
func rounds(members []graph.Member, values eval.Values) (state, last int) {
	for n := 1; n <= api.MaxIter; n++ {
		if !round(members, values) {
			return api.Settled, n
		}
	}
	return api.Stopped, api.MaxIter
}

// round works out each cell by the values that all have by then, those ahead of it in this round, too. Did it change any?
func round(members []graph.Member, values eval.Values) (changed bool) {
	for _, m := range members {
		v := values.Of(m.Formula)
		changed = changed || v != values[m.Cell]
		values[m.Cell] = v
	}
	return changed
}
