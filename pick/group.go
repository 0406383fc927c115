package pick

import (
	"slices"

	"sccsettle/api"
	"sccsettle/eval"
	"sccsettle/sort"
	"sccsettle/value"
)

// Group puts rows together.
func Group(rows [][]api.Value, by []int, sum int) ([]api.Group, error) {
	order, err := sort.Sort(rows, rising(by))
	if err != nil {
		return nil, err
	}
	if !sort.HasColumn(rows, sum) {
		return nil, api.ErrRange
	}
	var groups []api.Group
	for len(order) > 0 {
		// Rows that are alike follow each other here, and stand among themselves as they stood: so they are added up.
		part := order[:howManyAlike(rows, order, by)]
		groups = append(groups, api.Group{
			Key:   valuesIn(rows[part[0]], by),
			Count: len(part),
			Sum:   sumOf(rows, part, sum),
		})
		order = order[len(part):]
	}
	return groups, nil
}

// Cross adds up by two columns.
func Cross(rows [][]api.Value, by, over, sum int) ([]api.Value, []api.Value, [][]api.Value, error) {
	groups, err := Group(rows, []int{by, over}, sum)
	if err != nil {
		return nil, nil, nil, err
	}
	down, across := eachOnce(rows, by), eachOnce(rows, over)
	var sums [][]api.Value
	for _, a := range down {
		var line []api.Value
		for _, b := range across {
			line = append(line, sumUnder(groups, []api.Value{a, b}))
		}
		sums = append(sums, line)
	}
	return down, across, sums, nil
}

func rising(cols []int) []api.Key {
	var keys []api.Key
	for _, col := range cols {
		keys = append(keys, api.Key{Col: col})
	}
	return keys
}

// howManyAlike are at the head of an order.
func howManyAlike(rows [][]api.Value, order, by []int) int {
	isFirst := hasKey(valuesIn(rows[order[0]], by))
	isOther := func(i int) bool { return !isFirst(valuesIn(rows[i], by)) }
	if at := slices.IndexFunc(order, isOther); at >= 0 {
		return at
	}
	return len(order)
}

func hasKey(key []api.Value) func(other []api.Value) bool {
	return func(other []api.Value) bool { return slices.CompareFunc(other, key, value.Compare) == 0 }
}

func valuesIn(row []api.Value, cols []int) []api.Value {
	var l []api.Value
	for _, col := range cols {
		l = append(l, row[col])
	}
	return l
}

func sumOf(rows [][]api.Value, part []int, col int) api.Value {
	var l []api.Value
	for _, i := range part {
		l = append(l, rows[i][col])
	}
	return eval.Sum(l)
}

// sumUnder is the sum of the group that has a key; where there is no such group nothing is added up.
func sumUnder(groups []api.Group, key []api.Value) api.Value {
	isIt := hasKey(key)
	at := slices.IndexFunc(groups, func(g api.Group) bool { return isIt(g.Key) })
	if at < 0 {
		return eval.Sum(nil)
	}
	return groups[at].Sum
}

func eachOnce(rows [][]api.Value, col int) []api.Value {
	var l []api.Value
	for _, row := range rows {
		l = append(l, row[col])
	}
	slices.SortFunc(l, value.Compare)
	return slices.Compact(l)
}
