package seek

import (
	"slices"
	"strconv"

	"sccsettle/addr"
	"sccsettle/api"
	"sccsettle/eval"
	"sccsettle/graph"
	"sccsettle/settle"
	"sccsettle/sheet"
	"sccsettle/value"
)

// trial is a sheet in which a number stands in one cell, and another one is looked at. What hangs on what is the same with all numbers, so that only the parts by way of which the goal comes to hang on the number are worked out anew with each.
type trial struct {
	by, goal api.Cell
	moving   []graph.Part // in their Order
	values   eval.Values  // of the others that the goal comes to hang on, and of the moving ones as they were last
}

// trialOf tells what is wrong with a sheet ahead of what is wrong with the cells, or with the numbers that are to stand there (lawful: nothing), and at last whether there is no room for one.
func trialOf(l []api.Filled, by, goal api.Cell, lawful bool) (trial, error) {
	if err := graph.Check(l); err != nil {
		return trial{}, err
	}
	if addr.Check(by) != nil || addr.Check(goal) != nil || !lawful {
		return trial{}, api.ErrRange
	}
	// Any number does here: it is only to hang on nothing. That there may be one cell too many now is all that Plan can find still.
	plan, err := graph.Plan(sheet.With(l, []api.Filled{{Cell: by, Text: "0"}}))
	if err != nil {
		return trial{}, err
	}
	t := trial{by: by, goal: goal, values: eval.Values{}}
	t.ready(graph.Needed(plan, goal))
	return t, nil
}

// ready works out, once for all numbers, the parts that do not come to hang on the number, and keeps the others.
func (t *trial) ready(parts []graph.Part) {
	moved := map[api.Cell]struct{}{t.by: {}}
	isMoved := func(c api.Cell) bool {
		_, is := moved[c]
		return is
	}
	for _, p := range parts {
		looks := func(m graph.Member) bool { return slices.ContainsFunc(m.Looks, isMoved) }
		if !slices.ContainsFunc(p.Members, looks) {
			t.workOut(p)
			continue
		}
		t.moving = append(t.moving, p)
		for _, m := range p.Members {
			moved[m.Cell] = struct{}{}
		}
	}
}

// with is what the goal comes to, if a number stands there.
func (t *trial) with(n int) api.Value {
	t.values[t.by] = value.Read(strconv.Itoa(n))
	for _, p := range t.moving {
		t.workOut(p)
	}
	return t.values[t.goal]
}

func (t *trial) workOut(p graph.Part) {
	shown, _ := settle.Part(p, t.values)
	for _, of := range shown {
		t.values[of.Cell] = of.Value
	}
}
