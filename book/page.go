package book

import (
	"maps"
	"slices"

	"sccsettle/addr"
	"sccsettle/api"
	"sccsettle/sheet"
)

// page has the cells of a sheet with their texts. It takes and refuses what chapter 8's Set does; but nothing is worked out, since a book asks for no value.
type page map[api.Cell]api.Filled

// takes gives a cell a text, or tells that it may not have it; then nothing is changed.
func (p page) takes(f api.Filled) bool {
	if sheet.Check(f.Cell, f.Text) != nil {
		return false
	}
	if f.Text == "" {
		delete(p, f.Cell)
		return true
	}
	if _, is := p[f.Cell]; !is && len(p) == api.MaxCells {
		return false
	}
	p[f.Cell] = f
	return true
}

// list has the cells as they stand.
func (p page) list() []api.Filled {
	return slices.SortedFunc(maps.Values(p), func(a, b api.Filled) int { return addr.Compare(a.Cell, b.Cell) })
}
