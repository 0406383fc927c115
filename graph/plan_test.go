package graph_test

import (
	"fmt"
	"slices"
	"strings"
	"testing"

	"sccsettle/api"
	"sccsettle/formula"
	"sccsettle/graph"
	"sccsettle/plain"
)

// planShown: the parts in turn, each cell with its place, a circle in brackets.
func planShown(t *testing.T, l []api.Filled) string {
	t.Helper()
	plan := planned(t, l)
	links, err := graph.Links(l)
	if err != nil {
		t.Fatalf("Links(%v): %v", l, err)
	}
	var words []string
	for _, p := range plan {
		var cells []string
		for _, m := range p.Members {
			if m.Filled != l[m.Place] {
				t.Errorf("Plan(%v): %v stands at %d", l, m.Filled, m.Place)
			}
			if text, err := formula.Print(m.Formula); err == nil && text != m.Text {
				t.Errorf("Plan(%v): %v has the formula %s", l, m.Filled, text)
			}
			if want := linked(links, m.Cell); !slices.Equal(m.Looks, want) {
				t.Errorf("Plan(%v): %v looks at %s, want %s", l, m.Filled, names(m.Looks), names(want))
			}
			cells = append(cells, fmt.Sprint(named(m.Cell), "@", m.Place))
		}
		word := strings.Join(cells, " ")
		if p.Circular {
			word = "(" + word + ")"
		}
		words = append(words, word)
	}
	return strings.Join(words, ", ")
}

// linked: what a cell hangs on.
func linked(links [][2]api.Cell, c api.Cell) (on []api.Cell) {
	for _, link := range links {
		if link[0] == c {
			on = append(on, link[1])
		}
	}
	return on
}

// Plan has what Parts, Order and Links have.
func TestG3Plan(t *testing.T) {
	cases := []struct{ sheet, want string }{
		{"", ""},
		{"A1 =B1; B1 =A1+C1; C1 1; A2 =A1", "C1@2, (A1@0 B1@1), A2@3"},
		{"A1 =B1; B1 =C1; C1 =D1; D1 x", "D1@3, C1@2, B1@1, A1@0"},
		{"A1 =A1; B1 =C1; C1 =SUM(A2:C2); B2 =C1", "(A1@0), (C1@2 B2@3), B1@1"},
		{"B1 =ROWS(A1:C1); A2 =IF(TRUE,1,A2)", "(B1@0), (A2@1)"},
	}
	for _, c := range cases {
		if got := planShown(t, sheet(c.sheet)); got != c.want {
			t.Errorf("Plan(%s): %s; want %s", c.sheet, got, c.want)
		}
	}
	if plan, err := graph.Plan(sheet("A1 =(")); plan != nil || plain.Told(err) != api.ErrSyntax {
		t.Errorf("Plan of no formula: %v, %v", plan, err)
	}
}

// planned: the plan of a sheet that has nothing wrong.
func planned(t *testing.T, l []api.Filled) []graph.Part {
	t.Helper()
	plan, err := graph.Plan(l)
	if err != nil {
		t.Fatalf("Plan(%v): %v", l, err)
	}
	return plan
}

// firsts: parts in turn, by their first cells.
func firsts(parts []graph.Part) string {
	var cells []api.Cell
	for _, p := range parts {
		cells = append(cells, p.Members[0].Cell)
	}
	return names(cells)
}

// Needed leaves out what a cell does not come to hang on, and stays in the Order.
func TestG3Needed(t *testing.T) {
	const round = "A1 =B1; B1 =A1+C1; C1 1; D1 =A1; E1 =C1; A2 =D1+E1; B2 7"
	cases := []struct{ sheet, cell, want string }{
		{"", "A1", ""},
		{"A1 1; B1 =A1", "A1", "A1"},
		{"A1 1; B1 =A1", "B1", "A1 B1"},
		{"A1 1; B1 =A1", "C1", ""},
		{"A1 =B1; B1 =C1; C1 =D1; D1 x", "B1", "D1 C1 B1"},
		{"A1 =Z9; B1 =Z9", "A1", "A1"},
		{"A1 =SUM(B1:C2); B1 1; D1 2; E1 3; C2 =D1", "A1", "B1 D1 C2 A1"},
		{round, "A1", "C1 A1"},
		{round, "B1", "C1 A1"},
		{round, "C1", "C1"},
		{round, "A2", "C1 A1 D1 E1 A2"},
		{round, "E1", "C1 E1"},
		{round, "B2", "B2"},
	}
	for _, c := range cases {
		if got := firsts(graph.Needed(planned(t, sheet(c.sheet)), at(c.cell))); got != c.want {
			t.Errorf("Needed of %s, %s: %s; want %s", c.sheet, c.cell, got, c.want)
		}
	}
	if got := graph.Needed(nil, api.Cell{}); len(got) != 0 {
		t.Errorf("Needed of nothing: %v", got)
	}
}

// Formulas stand at the places of their cells, and say of a sheet what Check says.
func TestG1Formulas(t *testing.T) {
	l := sheet("A1 1; B1 =A1+1; C1 #REF!; A2 =SUM(A1:B1)")
	formulas, err := graph.Formulas(l)
	if err != nil || len(formulas) != len(l) {
		t.Fatalf("Formulas(%v): %v, %v", l, formulas, err)
	}
	for i, f := range l {
		text, err := formula.Print(formulas[i])
		if formula.Constant(f.Text) && formulas[i].Kind != 0 || !formula.Constant(f.Text) && (err != nil || text != f.Text) {
			t.Errorf("Formulas(%v): %v has %v", l, f, formulas[i])
		}
	}
	for _, wrong := range []string{"A1 ", "A1 =(", "B1 1; A1 1"} {
		if formulas, err := graph.Formulas(sheet(wrong)); formulas != nil || err == nil || err != graph.Check(sheet(wrong)) {
			t.Errorf("Formulas(%s): %v, %v", wrong, formulas, err)
		}
	}
}
