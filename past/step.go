package past

import (
	"slices"

	"sccsettle/addr"
	"sccsettle/api"
	"sccsettle/sheet"
)

// step is what was done as one: the cells that have another text behind it than ahead of it, as they stand, with both (empty ones, too). No whole sheets are kept.
type step struct{ ahead, behind []api.Filled }

// stepTo leaves out each cell whose text stands there already.
func stepTo(now, texts []api.Filled) (s step) {
	for _, f := range texts {
		if was := sheet.Text(now, f.Cell); was != f.Text {
			s.ahead = append(s.ahead, api.Filled{Cell: f.Cell, Text: was})
			s.behind = append(s.behind, f)
		}
	}
	return s
}

// lastOf has each cell once, as they stand, with the last of its texts: what was ahead of that in the same group is not seen.
func lastOf(l []api.Filled) []api.Filled {
	last := slices.Clone(l)
	slices.Reverse(last)
	slices.SortStableFunc(last, func(a, b api.Filled) int { return addr.Compare(a.Cell, b.Cell) })
	return slices.CompactFunc(last, func(a, b api.Filled) bool { return a.Cell == b.Cell })
}
