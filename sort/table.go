package sort

import (
	"sccsettle/api"
	"sccsettle/value"
)

// Check tells what is wrong with a table.
func Check(rows [][]api.Value) error {
	if len(rows) > api.MaxRows {
		return api.ErrFull
	}
	// Each thing is asked of all rows ahead of the next one: a later row may be too wide, where an earlier one is of another shape.
	for _, row := range rows {
		if len(row) > api.MaxWide {
			return api.ErrFull
		}
	}
	for _, row := range rows {
		if len(row) != len(rows[0]) {
			return api.ErrShape
		}
	}
	return checkValues(rows)
}

func checkValues(rows [][]api.Value) error {
	for _, row := range rows {
		for _, v := range row {
			if err := value.Check(v); err != nil {
				return err
			}
		}
	}
	return nil
}

// checkWith tells what is wrong with a table ahead of what is wrong with columns that are asked of it.
func checkWith(rows [][]api.Value, cols ...int) error {
	if err := Check(rows); err != nil {
		return err
	}
	if len(cols) > api.MaxWide {
		return api.ErrFull
	}
	for _, col := range cols {
		if !HasColumn(rows, col) {
			return api.ErrRange
		}
	}
	return nil
}

// HasColumn tells whether a table, which Check lets through, has a column; one without rows may come to have as many as there can be.
func HasColumn(rows [][]api.Value, col int) bool {
	wide := api.MaxWide
	if len(rows) > 0 {
		wide = len(rows[0])
	}
	return 0 <= col && col < wide
}

func columnsOf(keys []api.Key) []int {
	var cols []int
	for _, key := range keys {
		cols = append(cols, key.Col)
	}
	return cols
}
