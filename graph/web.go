package graph

import "slices"

// web has, for each place of a sheet, the places that it hangs on.
type web []set

// closed is the web of all that places come to hang on, by way of others or not.
func (w web) closed() web {
	reach := slices.Clone(w)
	// Behind each turn all ways are in it that go by way of this place and those ahead of it.
	for by := range reach {
		for place := range reach {
			if reach[place].has(by) {
				reach[place] = reach[place].with(reach[by])
			}
		}
	}
	return reach
}

// above is a set of places, with all that come to hang on one of them.
func (w web) above(places set) set {
	return places.with(w.closed().lookers(places))
}

// lookers are the places that hang on one of a set.
func (w web) lookers(places set) set {
	var lookers set
	for place, on := range w {
		if !on.common(places).empty() {
			lookers.put(place)
		}
	}
	return lookers
}

// circle is the shortest way from a place back to it, of several the first as places rise; none, if there is no way.
func (w web) circle(from int) []int {
	var aim set
	aim.put(from)
	// Rings around the aim: from each of their places it is as many steps as there are rings ahead.
	rings := []set{aim}
	seen := aim
	for rings[len(rings)-1].common(w[from]).empty() {
		next := w.lookers(rings[len(rings)-1]).without(seen)
		if next.empty() {
			return nil
		}
		seen = seen.with(next)
		rings = append(rings, next)
	}
	way := []int{from}
	for i := len(rings) - 1; i > 0; i-- {
		way = append(way, w[way[len(way)-1]].common(rings[i]).first())
	}
	return way
}

// part of a sheet: its places, and those outside of it that it comes to hang on.
type part struct{ places, below set }

// partsOf a web that is closed, by their first places.
func partsOf(reach web) []part {
	var parts []part
	var done set
	for first := range reach {
		if done.has(first) {
			continue
		}
		p := partAt(reach, first)
		done = done.with(p.places)
		parts = append(parts, p)
	}
	return parts
}

func partAt(reach web, first int) part {
	var p part
	p.places.put(first)
	for place := range reach[first].each {
		if reach[place].has(first) {
			p.places.put(place)
		}
	}
	p.below = reach[first].without(p.places)
	return p
}

// numbered gives each part the number at which it is worked out.
func numbered(parts []part) []int {
	var done set
	ready := func(p part) bool {
		return !done.has(p.places.first()) && p.below.without(done).empty()
	}
	numbers := make([]int, len(parts))
	for number := range parts {
		next := slices.IndexFunc(parts, ready)
		numbers[next] = number
		done = done.with(parts[next].places)
	}
	return numbers
}
