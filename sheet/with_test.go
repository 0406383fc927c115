package sheet_test

import (
	"strings"
	"testing"

	"sccsettle/api"
	"sccsettle/plain"
	"sccsettle/sheet"
)

// filled reads cells with their texts: "A1 =B1; B1 ".
func filled(text string) (l []api.Filled) {
	if text == "" {
		return nil
	}
	for _, word := range strings.Split(text, "; ") {
		name, of, _ := strings.Cut(word, " ")
		l = append(l, api.Filled{Cell: at(name), Text: of})
	}
	return l
}

func TestWith(t *testing.T) {
	cases := []struct{ list, over, want string }{
		{"", "", ""},
		{"A1 1; B1 2", "", "A1 1; B1 2"},
		{"", "A1 1; B1 ; C1 3", "A1 1; C1 3"},
		{"A1 1; B1 2; C1 3", "B1 5", "A1 1; B1 5; C1 3"},
		{"A1 1; B1 2; C1 3", "A1 ; C1 ", "B1 2"},
		{"A1 1; B1 2", "A1 ; B1 ", ""},
		{"B1 1; B2 2", "A1 3; C1 4; A2 5; C2 6", "A1 3; B1 1; C1 4; A2 5; B2 2; C2 6"},
		{"B1 1; B2 2", "A1 ; C1 ; C2 ", "B1 1; B2 2"},
		{"Z1 1", "A1 2; Z1 1; A2 3", "A1 2; Z1 1; A2 3"},
	}
	for _, c := range cases {
		l, over := filled(c.list), filled(c.over)
		got := sheet.With(l, over)
		if listed(got) != c.want {
			t.Errorf("With(%s, %s): %s; want %s", c.list, c.over, listed(got), c.want)
		}
		for i := range got {
			got[i] = api.Filled{}
		}
		if listed(l) != c.list || listed(over) != c.over {
			t.Errorf("With(%s, %s) shares memory: %s, %s", c.list, c.over, listed(l), listed(over))
		}
	}
}

func TestText(t *testing.T) {
	l := filled("B1 1; D1 2; B2 3")
	for name, want := range map[string]string{"A1": "", "B1": "1", "C1": "", "D1": "2", "E1": "", "A2": "", "B2": "3", "C2": ""} {
		if got := sheet.Text(l, at(name)); got != want {
			t.Errorf("Text of %s: %q; want %q", name, got, want)
		}
	}
	if got := sheet.Text(nil, at("A1")); got != "" {
		t.Errorf("Text in an empty sheet: %q", got)
	}
}

func TestCheck(t *testing.T) {
	cases := []struct {
		cell api.Cell
		text string
		want api.Errno
	}{
		{at("A1"), "", api.OK},
		{at("Z99"), "=A1", api.OK},
		{at("A1"), strings.Repeat("x", api.MaxText), api.OK},
		{api.Cell{}, "", api.ErrRange},
		{api.Cell{Col: 27, Row: 1}, "=", api.ErrRange},
		{at("A1"), "=" + strings.Repeat("x", api.MaxText), api.ErrFull},
		{at("A1"), "=", api.ErrSyntax},
	}
	for _, c := range cases {
		if err := sheet.Check(c.cell, c.text); plain.Told(err) != c.want {
			t.Errorf("Check(%v, %.20q): %v; want %v", c.cell, c.text, err, c.want)
		}
	}
}
