package graph_test

import (
	"cmp"
	"fmt"
	"math/rand/v2"
	"slices"
	"strings"
	"testing"

	"sccsettle/api"
	"sccsettle/graph"
)

// judge reckons by names alone: whom a cell looks at is what was drawn for it, not what was read from its text.
type judge struct {
	names []string            // of the sheet's cells, as they stand
	looks map[string][]string // as they stand, each once
}

func ahead(a, b string) int {
	x, y := at(a), at(b)
	return cmp.Or(cmp.Compare(x.Row, y.Row), cmp.Compare(x.Col, y.Col))
}

// follow: all that a cell comes to hang on.
func (j judge) follow(name string, seen map[string]bool) map[string]bool {
	for _, on := range j.looks[name] {
		if !seen[on] {
			seen[on] = true
			j.follow(on, seen)
		}
	}
	return seen
}

func (j judge) hangsOn(a, b string) bool { return j.follow(a, map[string]bool{})[b] }

func (j judge) links() string {
	var words []string
	for _, name := range j.names {
		for _, on := range j.looks[name] {
			words = append(words, name+">"+on)
		}
	}
	return strings.Join(words, " ")
}

func (j judge) parts() (parts [][]string) {
	for _, name := range j.names {
		mate := func(part []string) bool { return j.hangsOn(name, part[0]) && j.hangsOn(part[0], name) }
		if i := slices.IndexFunc(parts, mate); i >= 0 {
			parts[i] = append(parts[i], name)
		} else {
			parts = append(parts, []string{name})
		}
	}
	return parts
}

// order takes, over and over, the first part that waits for none.
func (j judge) order() string {
	parts := j.parts()
	numbers := make([]int, len(parts))
	left := map[int]bool{}
	for i := range parts {
		left[i] = true
	}
	for number := range parts {
		for i := range parts {
			waits := func(k int) bool { return k != i && left[k] && j.hangsOn(parts[i][0], parts[k][0]) }
			if left[i] && !slices.ContainsFunc(upTo(len(parts)), waits) {
				numbers[i] = number
				delete(left, i)
				break
			}
		}
	}
	return strings.Trim(fmt.Sprint(numbers), "[]")
}

func upTo(n int) (l []int) {
	for i := range n {
		l = append(l, i)
	}
	return l
}

// ways: all ways on from the last cell of one back to its first, none twice.
func (j judge) ways(way []string) (all [][]string) {
	for _, on := range j.looks[way[len(way)-1]] {
		if on == way[0] {
			all = append(all, slices.Clone(way))
		} else if !slices.Contains(way, on) && slices.Contains(j.names, on) {
			all = append(all, j.ways(append(slices.Clone(way), on))...)
		}
	}
	return all
}

func (j judge) circle(name string) string {
	all := j.ways([]string{name})
	if len(all) == 0 || !slices.Contains(j.names, name) {
		return "none"
	}
	best := slices.MinFunc(all, func(a, b []string) int {
		return cmp.Or(cmp.Compare(len(a), len(b)), slices.CompareFunc(a, b, ahead))
	})
	return strings.Join(best, " ")
}

func (j judge) hangs(name string) string {
	var hang []string
	for _, of := range j.names {
		if j.hangsOn(of, name) {
			hang = append(hang, of)
		}
	}
	return strings.Join(hang, " ")
}

// field: the cells that are drawn from, as they stand; far from each other, too, so that rows, and not columns, come first.
func field() (names []string) {
	for _, row := range []string{"1", "2", "9", "10", "99"} {
		for _, col := range []string{"A", "B", "Z"} {
			names = append(names, col+row)
		}
	}
	return names
}

// drawn: a sheet of some cells of the field, and what the judge knows of it.
func drawn(r *rand.Rand) ([]api.Filled, judge) {
	j := judge{looks: map[string][]string{}}
	var l []api.Filled
	// Long circles want many cells that are filled, and few links each.
	share, links := 3+r.IntN(8), 1+r.IntN(3)
	names := field()
	names = names[:5+r.IntN(len(names)-4)]
	for _, name := range names {
		if r.IntN(10) >= share {
			continue
		}
		text := "7"
		if r.IntN(8) > 0 {
			text = "=1"
			for range 1 + r.IntN(links) {
				more, on := drawnLook(r, names)
				text += more
				j.looks[name] = append(j.looks[name], on...)
			}
			slices.SortFunc(j.looks[name], ahead)
			j.looks[name] = slices.Compact(j.looks[name])
		}
		j.names = append(j.names, name)
		l = append(l, api.Filled{Cell: at(name), Text: text})
	}
	return l, j
}

// drawnLook: a piece of a formula, and what it looks at.
func drawnLook(r *rand.Rand, names []string) (string, []string) {
	a := names[r.IntN(len(names))]
	switch r.IntN(20) {
	case 0:
		return "+MAX(B2:A1,0)", []string{"A1", "B1", "A2", "B2"}
	case 1:
		return "&SUM($A9:$A$10)", []string{"A9", "A10"}
	case 2:
		return "*IF(TRUE,2,-$" + a + ")", []string{a}
	case 3:
		return `&"` + a + `"`, nil
	}
	return "+" + a, []string{a}
}

// needed: the parts of a plan that are left, by their first cells.
func (j judge) needed(plan []graph.Part, name string) string {
	return firsts(slices.DeleteFunc(plan, func(p graph.Part) bool {
		first := named(p.Members[0].Cell)
		return first != name && !j.hangsOn(name, first)
	}))
}

func TestJudged(t *testing.T) {
	r := rand.New(rand.NewPCG(6, 1))
	circular := 0
	for range 4000 {
		l, j := drawn(r)
		var parts []string
		for _, part := range j.parts() {
			parts = append(parts, strings.Join(part, " "))
		}
		if got, want := linksShown(t, l), j.links(); got != want {
			t.Fatalf("Links(%v) = %s, want %s", l, got, want)
		}
		if got, want := partsShown(t, l), strings.Join(parts, ", "); got != want {
			t.Fatalf("Parts(%v) = %s, want %s", l, got, want)
		}
		if got, want := orderShown(t, l), j.order(); got != want {
			t.Fatalf("Order(%v) = %s, want %s", l, got, want)
		}
		for range 3 {
			name := field()[r.IntN(10)]
			want := j.circle(name)
			if got := circleShown(t, l, at(name)); got != want {
				t.Fatalf("Circle(%v; %s) = %s, want %s", l, name, got, want)
			}
			if strings.Count(want, " ") > 1 {
				circular++
			}
			if got, want := hangsShown(t, l, at(name)), j.hangs(name); got != want {
				t.Fatalf("Hangs(%v; %s) = %s, want %s", l, name, got, want)
			}
			if got, want := firsts(graph.Needed(planned(t, l), at(name))), j.needed(planned(t, l), name); got != want {
				t.Fatalf("Needed(%v; %s) = %s, want %s", l, name, got, want)
			}
		}
	}
	if circular < 500 {
		t.Errorf("only %d circles of three cells or more were drawn", circular)
	}
}
