package past_test

import (
	"fmt"
	"slices"
	"strconv"
	"strings"
	"testing"

	"sccsettle/api"
	"sccsettle/past"
	"sccsettle/plain"
)

// at reads a cell's name, without the program's own words for it.
func at(name string) api.Cell {
	row, err := strconv.Atoi(name[1:])
	if err != nil {
		panic(name)
	}
	return api.Cell{Col: int(name[0]-'A') + 1, Row: row}
}

func named(c api.Cell) string { return fmt.Sprintf("%c%d", 'A'+c.Col-1, c.Row) }

// texts reads cells with their texts: "A1 =B1; B1 1; A1 ".
func texts(text string) (l []api.Filled) {
	if text == "" {
		return nil
	}
	for _, word := range strings.Split(text, "; ") {
		name, of, _ := strings.Cut(word, " ")
		l = append(l, api.Filled{Cell: at(name), Text: of})
	}
	return l
}

func listed(l []api.Filled) string {
	var words []string
	for _, f := range l {
		words = append(words, named(f.Cell)+" "+f.Text)
	}
	return strings.Join(words, "; ")
}

func begun(t *testing.T, text string) *past.Past {
	t.Helper()
	p, err := past.New(texts(text))
	if err != nil {
		t.Fatalf("New(%s): %v", text, err)
	}
	return p
}

// full is a sheet of so many cells, row by row, with one text; R8 is the last one of 200.
func full(many int, text string) (l []api.Filled) {
	for i := range many {
		l = append(l, api.Filled{Cell: api.Cell{Col: i%api.MaxCol + 1, Row: i/api.MaxCol + 1}, Text: text})
	}
	return l
}

// stand: "1 0 A1 5": how often one could Undo, Redo, and the sheet.
func stand(p *past.Past) string {
	back, on := p.Depth()
	word := fmt.Sprint(back, " ", on)
	if l := p.Now(); len(l) > 0 {
		word += " " + listed(l)
	}
	return word
}

func want(t *testing.T, p *past.Past, did, want string) {
	t.Helper()
	if got := stand(p); got != want {
		t.Errorf("behind %s: %s; want %s", did, got, want)
	}
}

// step: what is done, and how it is then. "set A1 5", "group A1 5; B1 ", "undo", "redo".
type step struct{ do, want string }

func doSteps(t *testing.T, begin string, steps []step) {
	t.Helper()
	p := begun(t, begin)
	for i, s := range steps {
		word, of, _ := strings.Cut(s.do, " ")
		var got any
		switch word {
		case "set":
			f := texts(of)[0]
			got = plain.Told(p.Set(f.Cell, f.Text))
		case "group":
			got = plain.Told(p.Group(texts(of)))
		case "undo":
			got = p.Undo()
		case "redo":
			got = p.Redo()
		default:
			t.Fatalf("step %s", s.do)
		}
		if got := fmt.Sprint(got, " ", stand(p)); got != s.want {
			t.Fatalf("step %d, %s: %s; want %s", i, s.do, got, s.want)
		}
	}
}

func TestNew(t *testing.T) {
	for _, text := range []string{"", "A1 1", "A1 =B1; B1 =A1; Z99 x"} {
		want(t, begun(t, text), "New", strings.TrimSpace("0 0 "+text))
	}
	if p, err := past.New(full(api.MaxCells, "=A1")); err != nil || len(p.Now()) != api.MaxCells {
		t.Errorf("a full sheet: %v", err)
	}
}

// What is wrong with a sheet is told, and there is no Past then.
func TestNewFaults(t *testing.T) {
	long := strings.Repeat("x", api.MaxText+1)
	cases := []struct {
		list []api.Filled
		want api.Errno
	}{
		{full(api.MaxCells+1, "="), api.ErrFull},
		{[]api.Filled{{Text: "1"}}, api.ErrRange},
		{[]api.Filled{{Cell: api.Cell{Col: 27, Row: 1}, Text: ""}}, api.ErrRange},
		{texts("B1 1; A1 2"), api.ErrOrder},
		{texts("A1 1; A1 "), api.ErrOrder},
		{texts("A1 "), api.ErrShape},
		{texts("A1 " + long), api.ErrFull},
		{texts("A1 =" + long), api.ErrFull},
		{texts("A1 ="), api.ErrSyntax},
		{texts("A1 1; B1 =(; C1 "), api.ErrSyntax},
	}
	for _, c := range cases {
		if p, err := past.New(c.list); p != nil || plain.Told(err) != c.want {
			t.Errorf("New(%.60v): %v, %v; want %v", c.list, p, err, c.want)
		}
	}
}

func TestSet(t *testing.T) {
	doSteps(t, "B1 2", []step{
		{"undo", "false 0 0 B1 2"},
		{"redo", "false 0 0 B1 2"},
		{"set A1 1", "OK 1 0 A1 1; B1 2"},
		{"set A1 =B1+A1", "OK 2 0 A1 =B1+A1; B1 2"},
		{"set B1 ", "OK 3 0 A1 =B1+A1"},
		{"set C1 3", "OK 4 0 A1 =B1+A1; C1 3"},
		{"redo", "false 4 0 A1 =B1+A1; C1 3"},
		{"undo", "true 3 1 A1 =B1+A1"},
		{"undo", "true 2 2 A1 =B1+A1; B1 2"},
		{"undo", "true 1 3 A1 1; B1 2"},
		{"undo", "true 0 4 B1 2"},
		{"undo", "false 0 4 B1 2"},
		{"redo", "true 1 3 A1 1; B1 2"},
		{"redo", "true 2 2 A1 =B1+A1; B1 2"},
		{"redo", "true 3 1 A1 =B1+A1"},
		{"redo", "true 4 0 A1 =B1+A1; C1 3"},
		{"redo", "false 4 0 A1 =B1+A1; C1 3"},
	})
}

// Cells come to stand in their order, and go back to where they stood.
func TestSetOrder(t *testing.T) {
	doSteps(t, "C2 x", []step{
		{"set D2 1", "OK 1 0 C2 x; D2 1"},
		{"set B2 2", "OK 2 0 B2 2; C2 x; D2 1"},
		{"set Z1 3", "OK 3 0 Z1 3; B2 2; C2 x; D2 1"},
		{"set A10 4", "OK 4 0 Z1 3; B2 2; C2 x; D2 1; A10 4"},
		{"set A9 5", "OK 5 0 Z1 3; B2 2; C2 x; D2 1; A9 5; A10 4"},
		{"set C2 ", "OK 6 0 Z1 3; B2 2; D2 1; A9 5; A10 4"},
		{"undo", "true 5 1 Z1 3; B2 2; C2 x; D2 1; A9 5; A10 4"},
		{"undo", "true 4 2 Z1 3; B2 2; C2 x; D2 1; A10 4"},
	})
}

// A text that stands there already does nothing: what was undone can be done again still.
func TestSetSame(t *testing.T) {
	doSteps(t, "A1 1; B1 =1", []step{
		{"set A1 1", "OK 0 0 A1 1; B1 =1"},
		{"set B1 =1", "OK 0 0 A1 1; B1 =1"},
		{"set C1 ", "OK 0 0 A1 1; B1 =1"},
		{"set A1 2", "OK 1 0 A1 2; B1 =1"},
		{"set A1 2", "OK 1 0 A1 2; B1 =1"},
		{"undo", "true 0 1 A1 1; B1 =1"},
		{"set A1 1", "OK 0 1 A1 1; B1 =1"},
		{"set Z99 ", "OK 0 1 A1 1; B1 =1"},
		{"redo", "true 1 0 A1 2; B1 =1"},
		// It is the text that counts: these come to the same.
		{"set B1 = 1", "OK 2 0 A1 2; B1 = 1"},
		{"set B1 1", "OK 3 0 A1 2; B1 1"},
		// And the one that stands there now: not one of before.
		{"set B1 =1", "OK 4 0 A1 2; B1 =1"},
		{"set B1 ", "OK 5 0 A1 2"},
		{"set B1 ", "OK 5 0 A1 2"},
	})
}

// What is done cuts off what was undone, even if it is the same.
func TestCut(t *testing.T) {
	doSteps(t, "", []step{
		{"set A1 1", "OK 1 0 A1 1"},
		{"set A1 2", "OK 2 0 A1 2"},
		{"set A1 3", "OK 3 0 A1 3"},
		{"undo", "true 2 1 A1 2"},
		{"undo", "true 1 2 A1 1"},
		{"set B1 5", "OK 2 0 A1 1; B1 5"},
		{"redo", "false 2 0 A1 1; B1 5"},
		{"undo", "true 1 1 A1 1"},
		{"undo", "true 0 2"},
		{"undo", "false 0 2"},
		{"set A1 1", "OK 1 0 A1 1"},
		{"redo", "false 1 0 A1 1"},
		{"group B1 2; C1 3", "OK 2 0 A1 1; B1 2; C1 3"},
		{"undo", "true 1 1 A1 1"},
		{"group A1 9; B1 2", "OK 2 0 A1 9; B1 2"},
		{"redo", "false 2 0 A1 9; B1 2"},
		{"undo", "true 1 1 A1 1"},
		{"redo", "true 2 0 A1 9; B1 2"},
		{"undo", "true 1 1 A1 1"},
		{"undo", "true 0 2"},
		{"redo", "true 1 1 A1 1"},
		{"redo", "true 2 0 A1 9; B1 2"},
	})
}

func TestGroup(t *testing.T) {
	doSteps(t, "A1 1; B1 2", []step{
		{"group C1 3; A1 ; B1 =A1", "OK 1 0 B1 =A1; C1 3"},
		{"undo", "true 0 1 A1 1; B1 2"},
		{"redo", "true 1 0 B1 =A1; C1 3"},
		// Of several texts for a cell the last one stands.
		{"group D1 1; D1 2; D1 3", "OK 2 0 B1 =A1; C1 3; D1 3"},
		{"group D1 ; D1 4", "OK 3 0 B1 =A1; C1 3; D1 4"},
		{"group D1 5; D1 ", "OK 4 0 B1 =A1; C1 3"},
		{"undo", "true 3 1 B1 =A1; C1 3; D1 4"},
		{"undo", "true 2 2 B1 =A1; C1 3; D1 3"},
		{"undo", "true 1 3 B1 =A1; C1 3"},
		// They need not stand in order.
		{"group Z9 1; A2 2; Z1 3; A2 4; A1 5", "OK 2 0 A1 5; B1 =A1; C1 3; Z1 3; A2 4; Z9 1"},
		// Some of it may stand there already.
		{"group Z9 1; A2 5; Z1 3", "OK 3 0 A1 5; B1 =A1; C1 3; Z1 3; A2 5; Z9 1"},
		{"undo", "true 2 1 A1 5; B1 =A1; C1 3; Z1 3; A2 4; Z9 1"},
		{"undo", "true 1 2 B1 =A1; C1 3"},
		{"undo", "true 0 3 A1 1; B1 2"},
		{"redo", "true 1 2 B1 =A1; C1 3"},
		{"redo", "true 2 1 A1 5; B1 =A1; C1 3; Z1 3; A2 4; Z9 1"},
	})
}

func TestGroupNothing(t *testing.T) {
	doSteps(t, "A1 1", []step{
		{"group ", "OK 0 0 A1 1"},
		{"set A1 2", "OK 1 0 A1 2"},
		{"undo", "true 0 1 A1 1"},
		{"group ", "OK 0 1 A1 1"},
		{"group A1 1", "OK 0 1 A1 1"},
		{"group A1 1; B1 ; A1 1", "OK 0 1 A1 1"},
		// All of them as one: it is as it was.
		{"group A1 2; A1 1", "OK 0 1 A1 1"},
		{"group B1 7; A1 ; B1 ; A1 1", "OK 0 1 A1 1"},
		{"redo", "true 1 0 A1 2"},
	})
}

// The first error is told, in the order of the texts, and nothing is changed by those ahead of it.
func TestFaults(t *testing.T) {
	long := strings.Repeat("x", api.MaxText+1)
	deep := "=" + strings.Repeat("-", api.MaxDepth+1) + "1"
	none := []api.Cell{{}, {Col: 27, Row: 1}, {Col: 1, Row: 100}, {Col: 0, Row: 1}, {Col: 1, Row: 0}, {Col: -1 << 63, Row: 1<<63 - 1}}
	type fault struct {
		list []api.Filled
		want api.Errno
	}
	var faults []fault
	add := func(c api.Cell, text string, want api.Errno) {
		faults = append(faults, fault{[]api.Filled{{Cell: c, Text: text}}, want})
	}
	for _, c := range none {
		for _, text := range []string{"", "1", "=", long} {
			add(c, text, api.ErrRange)
		}
	}
	for _, name := range []string{"A1", "B1", "Z99"} {
		add(at(name), long, api.ErrFull)
		add(at(name), "="+long, api.ErrFull)
		add(at(name), "=", api.ErrSyntax)
		add(at(name), "=1+", api.ErrSyntax)
		add(at(name), "=A1:B2", api.ErrSyntax)
		add(at(name), deep, api.ErrSyntax)
	}
	singles := len(faults)
	for _, f := range slices.Clone(faults) {
		// What is ahead of it is fine and changes something; what is behind it is wrong in another way.
		worse := fault{append(texts("A1 7; B1 ; C1 =A1"), f.list...), f.want}
		worse.list = append(worse.list, texts("D1 8; A1 =; B1 "+long)...)
		worse.list = append(worse.list, api.Filled{})
		faults = append(faults, worse)
		// Even if the text does not come to stand there, or nothing is changed by the others.
		faults = append(faults, fault{append(texts("A1 1"), append(slices.Clone(f.list), api.Filled{Cell: f.list[0].Cell})...), f.want})
	}
	p := begun(t, "A1 1; B1 =A1")
	for _, f := range texts("C1 3; C1 ") {
		if err := p.Set(f.Cell, f.Text); err != nil {
			t.Fatal(err)
		}
	}
	p.Undo()
	for i, f := range faults {
		if i < singles {
			if err := p.Set(f.list[0].Cell, f.list[0].Text); plain.Told(err) != f.want {
				t.Errorf("Set(%.60v): %v; want %v", f.list[0], err, f.want)
			}
		}
		if err := p.Group(f.list); plain.Told(err) != f.want {
			t.Errorf("Group(%.99v): %v; want %v", f.list, err, f.want)
		}
		want(t, p, fmt.Sprintf("%.99v", f.list), "1 1 A1 1; B1 =A1; C1 3")
	}
	if !p.Redo() || !p.Undo() || !p.Undo() || p.Undo() {
		t.Error("what was done and undone is not there any more")
	}
	want(t, p, "all", "0 2 A1 1; B1 =A1")
}

// The longest texts and the deepest formulas are taken, and come back.
func TestEdges(t *testing.T) {
	p := begun(t, "")
	edges := []string{strings.Repeat("x", api.MaxText), "=1" + strings.Repeat(" ", api.MaxText-2), "=" + strings.Repeat("-", api.MaxDepth) + "1"}
	for i, text := range edges {
		if err := p.Set(at("Z99"), text); err != nil {
			t.Fatalf("%.20s: %v", text, err)
		}
		want(t, p, "Set", fmt.Sprint(i+1, 0, " Z99 ", text))
	}
	for i := len(edges) - 2; i >= 0; i-- {
		p.Undo()
		want(t, p, "Undo", fmt.Sprint(i+1, len(edges)-1-i, " Z99 ", edges[i]))
	}
}

// More cells than may be are refused, behind all else; in a group only how many there are in the end counts.
func TestFull(t *testing.T) {
	p, err := past.New(full(api.MaxCells, "1"))
	if err != nil {
		t.Fatal(err)
	}
	refused := func(text string, want api.Errno) {
		t.Helper()
		l := texts(text)
		if len(l) == 1 {
			if err := p.Set(l[0].Cell, l[0].Text); plain.Told(err) != want {
				t.Errorf("Set(%s): %v; want %v", text, err, want)
			}
		}
		if err := p.Group(l); plain.Told(err) != want {
			t.Errorf("Group(%s): %v; want %v", text, err, want)
		}
		if back, on := p.Depth(); back != 0 || on != 0 || !slices.Equal(p.Now(), full(api.MaxCells, "1")) {
			t.Errorf("Group(%s) is refused, and changed something", text)
		}
	}
	refused("S8 1", api.ErrFull)
	refused("Z99 =A1", api.ErrFull)
	refused("S8 =(", api.ErrSyntax)
	refused("S8 1; A1 =(", api.ErrSyntax)
	refused("S8 1; T8 2; A1 ", api.ErrFull)
	refused("A1 ; A1 1; S8 1", api.ErrFull)
	refused("S8 1; T8 1; A1", api.ErrFull)
	taken := func(text string, back, cells int) {
		t.Helper()
		if err := p.Group(texts(text)); err != nil {
			t.Errorf("Group(%s): %v", text, err)
		}
		if got, on := p.Depth(); got != back || on != 0 || len(p.Now()) != cells {
			t.Errorf("behind Group(%s): %d, %d, %d cells", text, got, on, len(p.Now()))
		}
	}
	taken("S8 ; A1 1", 0, 200)
	taken("S8 1; S8 ; A1 2", 1, 200)
	taken("S8 1; A1 ", 2, 200)
	taken("T8 1; U8 1; V8 1; S8 ; T8 ; B1 ; C1 ", 3, 199)
	taken("Z99 =A1", 4, 200)
	for p.Undo() {
	}
	if !slices.Equal(p.Now(), full(api.MaxCells, "1")) {
		t.Errorf("undone: %s", listed(p.Now()))
	}
	for p.Redo() {
	}
	if l := p.Now(); len(l) != 200 || listed(l[:1]) != "D1 1" || listed(l[197:]) != "U8 1; V8 1; Z99 =A1" {
		t.Errorf("done again: %s", listed(l))
	}
}

// A group may come to more than a sheet holds in between, and need not end with less than it has itself.
func TestGroupMany(t *testing.T) {
	p := begun(t, "A1 x")
	var all, gone []api.Filled
	for _, f := range full(api.MaxCol*api.MaxRow, "1") {
		all = append(all, f)
		if len(all) > api.MaxCells {
			gone = append(gone, api.Filled{Cell: f.Cell})
		}
	}
	if err := p.Group(all); plain.Told(err) != api.ErrFull {
		t.Errorf("all cells of all: %v", err)
	}
	want(t, p, "a group that is refused", "0 0 A1 x")
	if err := p.Group(append(slices.Clone(all), gone...)); err != nil {
		t.Errorf("all, and then most of them gone: %v", err)
	}
	if back, on := p.Depth(); back != 1 || on != 0 || !slices.Equal(p.Now(), full(api.MaxCells, "1")) {
		t.Errorf("%d, %d: %s", back, on, listed(p.Now()))
	}
	p.Undo()
	want(t, p, "Undo", "0 1 A1 x")
	// One full sheet in the place of another one.
	p.Redo()
	var other []api.Filled
	for i, f := range all[:2*api.MaxCells] {
		if i < api.MaxCells {
			f.Text = ""
		}
		other = append(other, f)
	}
	if err := p.Group(other); err != nil || !slices.Equal(p.Now(), other[api.MaxCells:]) {
		t.Errorf("the other sheet: %v, %s", err, listed(p.Now()))
	}
	p.Undo()
	if !slices.Equal(p.Now(), full(api.MaxCells, "1")) {
		t.Errorf("the one sheet: %s", listed(p.Now()))
	}
}

// A long past is all there, and each further step costs no more than the first ones.
func TestLong(t *testing.T) {
	const many = 50000
	p := begun(t, "B1 =A1")
	for i := range many {
		if err := p.Set(at("A1"), strconv.Itoa(i)); err != nil {
			t.Fatal(err)
		}
	}
	for i := many - 2; i >= 0; i-- {
		if !p.Undo() || p.Now()[0].Text != strconv.Itoa(i) {
			t.Fatalf("undone to %d: %s", i, listed(p.Now()))
		}
	}
	p.Undo()
	want(t, p, "all", "0 50000 B1 =A1")
	if p.Undo() {
		t.Error("there is more than was done")
	}
	for range 7 {
		p.Redo()
	}
	want(t, p, "seven", "7 49993 A1 6; B1 =A1")
	if err := p.Set(at("A1"), ""); err != nil {
		t.Fatal(err)
	}
	want(t, p, "Set", "8 0 B1 =A1")
}

// What was made one by one shares nothing.
func TestApart(t *testing.T) {
	l := texts("A1 1")
	a, errA := past.New(l)
	b, errB := past.New(l)
	if errA != nil || errB != nil {
		t.Fatal(errA, errB)
	}
	if err := a.Set(at("A1"), "2"); err != nil {
		t.Fatal(err)
	}
	want(t, a, "Set", "1 0 A1 2")
	want(t, b, "a Set of another one", "0 0 A1 1")
	if b.Undo() || !a.Undo() || b.Redo() {
		t.Error("one knows what another one did")
	}
}

// Lists that are handed in are neither written into nor kept, and answers are the caller's.
func TestLists(t *testing.T) {
	spoil := func(l []api.Filled) {
		for i := range l {
			l[i] = api.Filled{Text: "spoilt"}
		}
	}
	first := texts("A1 1; B1 2; C1 3; D1 4")
	p, err := past.New(first[:2])
	if err != nil {
		t.Fatal(err)
	}
	if listed(first) != "A1 1; B1 2; C1 3; D1 4" {
		t.Errorf("New has written into its list: %s", listed(first))
	}
	spoil(first)
	want(t, p, "New", "0 0 A1 1; B1 2")
	group := texts("Z9 9; B1 7; A1 ; B1 5; C1 6; D1 7")
	if err := p.Group(group[:5]); err != nil {
		t.Fatal(err)
	}
	if listed(group) != "Z9 9; B1 7; A1 ; B1 5; C1 6; D1 7" {
		t.Errorf("Group has written into its list: %s", listed(group))
	}
	spoil(group)
	now := p.Now()
	_ = append(p.Now()[:1], api.Filled{Text: "spoilt"})
	want(t, p, "Group", "1 0 B1 5; C1 6; Z9 9")
	spoil(p.Now())
	p.Undo()
	spoil(p.Now())
	want(t, p, "Undo", "0 1 A1 1; B1 2")
	p.Redo()
	spoil(p.Now())
	want(t, p, "Redo", "1 0 B1 5; C1 6; Z9 9")
	// And an answer stays as it was given.
	if listed(now) != "B1 5; C1 6; Z9 9" {
		t.Errorf("an answer of then: %s", listed(now))
	}
}
