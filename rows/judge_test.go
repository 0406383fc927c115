package rows_test

import (
	"fmt"
	"math/rand/v2"
	"regexp"
	"slices"
	"strconv"
	"strings"
	"testing"

	"sccsettle/api"
	"sccsettle/plain"
	"sccsettle/rows"
)

const lost = "#REF!"

// drawnText is a text as it stands in a cell, and, of a formula, as it is printed; a constant has none of that.
type drawnText struct{ stands, printed string }

// judge has a sheet as texts by the names of cells, and changes formulas as texts, by lists of lines.
type judge map[string]drawnText

// numbered: the numbers of all rows, or columns.
func numbered(row bool) (lines []int) {
	for i := range map[bool]int{true: 99, false: 26}[row] {
		lines = append(lines, i+1)
	}
	return lines
}

// inRef: a text in quotes, or a ref, or a box; texts are taken, too, so that nothing in them is.
var inRef = regexp.MustCompile(`"[^"]*"|(\$?[A-Z]\$?[0-9]+)(:\$?[A-Z]\$?[0-9]+)?`)

// spot is the line of a ref, or of a cell.
func spot(ref string, row bool) int {
	c := at(strings.ReplaceAll(ref, "$", ""))
	if row {
		return c.Row
	}
	return c.Col
}

// put writes it in another line.
func put(ref string, row bool, line int) string {
	digits := strings.TrimLeft(ref, "$ABCDEFGHIJKLMNOPQRSTUVWXYZ")
	head := strings.TrimSuffix(ref, digits)
	if row {
		return head + strconv.Itoa(line)
	}
	letter := strings.Trim(head, "$")
	return strings.Replace(head, letter, string(rune('A'+line-1)), 1) + digits
}

// rewritten: now has the old numbers of all lines at their new places.
func rewritten(text string, row, shrinks bool, now []int) string {
	place := func(line int) int { return slices.Index(now, line) + 1 }
	return inRef.ReplaceAllStringFunc(text, func(piece string) string {
		if piece[0] == '"' {
			return piece
		}
		a, b, box := strings.Cut(piece, ":")
		if !box {
			b = a
		}
		first, last := spot(a, row), spot(b, row)
		if box && shrinks {
			first, last = kept(first, last, now)
		}
		if place(first) == 0 || place(last) == 0 {
			return lost
		}
		if !box {
			return put(a, row, place(first))
		}
		return put(a, row, place(first)) + ":" + put(b, row, place(last))
	})
}

// kept: the outermost lines between two corners that there are still, on the side of each; 0, if there is none.
func kept(a, b int, now []int) (int, int) {
	left := slices.DeleteFunc(slices.Clone(now), func(line int) bool { return line < min(a, b) || line > max(a, b) })
	switch {
	case len(left) == 0:
		return 0, 0
	case a > b:
		return left[len(left)-1], left[0]
	}
	return left[0], left[len(left)-1]
}

func inserted(row bool, from, many int) []int {
	lines := numbered(row)
	return slices.Insert(slices.Clone(lines), from-1, make([]int, many)...)[:len(lines)]
}

func deleted(row bool, from, many int) []int {
	return slices.DeleteFunc(numbered(row), func(line int) bool { return line >= from && line < from+many })
}

// changed: the cells at their new places, with their texts. What is at no place falls off, or is gone.
func (j judge) changed(row, shrinks bool, now []int) (judge, api.Errno) {
	next := judge{}
	for name, text := range j {
		place := slices.Index(now, spot(name, row)) + 1
		if place == 0 && shrinks {
			continue
		}
		if place == 0 {
			return nil, api.ErrFull
		}
		if printed := rewritten(text.printed, row, shrinks, now); printed != text.printed {
			text = drawnText{printed, printed}
		}
		if len(text.stands) > 200 {
			return nil, api.ErrFull
		}
		next[put(name, row, place)] = text
	}
	return next, api.OK
}

func (j judge) swapped(row bool, a, b int) judge {
	next := judge{}
	lines := numbered(row)
	lines[a-1], lines[b-1] = b, a
	for name, text := range j {
		next[put(name, row, lines[spot(name, row)-1])] = text
	}
	return next
}

// list has the cells as they stand.
func (j judge) list() (l []api.Filled) {
	for name, text := range j {
		l = append(l, api.Filled{Cell: at(name), Text: text.stands})
	}
	slices.SortFunc(l, func(a, b api.Filled) int { return (a.Cell.Row-b.Cell.Row)*100 + a.Cell.Col - b.Cell.Col })
	return l
}

// drawer draws lines that lie close together, and sometimes at the edges.
type drawer struct{ *rand.Rand }

func (d drawer) name() string {
	c := api.Cell{Col: 1 + d.IntN(6), Row: 1 + d.IntN(12)}
	if d.IntN(12) == 0 {
		c.Col += 20
	}
	if d.IntN(12) == 0 {
		c.Row += 87
	}
	return named(c)
}

func (d drawer) ref() string {
	name := d.name()
	return []string{"", "$"}[d.IntN(2)] + name[:1] + []string{"", "$"}[d.IntN(2)] + name[1:]
}

// term is no operator with two operands, so that brackets around it are never printed.
func (d drawer) term() string {
	switch d.IntN(8) {
	case 0:
		return `"A1:B2 $C3"`
	case 1:
		return strconv.Itoa(d.IntN(100))
	case 2:
		return "-" + d.ref()
	case 3, 4:
		return "SUM(" + d.ref() + ":" + d.ref() + "," + d.ref() + ")"
	}
	return d.ref()
}

// formula joins terms; it stands with blanks and brackets, if there is room.
func (d drawer) formula(terms int) drawnText {
	var printed, stands []string
	for range terms {
		term := d.term()
		printed = append(printed, term)
		stands = append(stands, []string{term, " " + term, "( " + term + ")", "(" + term + " )"}[d.IntN(4)])
	}
	text := drawnText{"=" + strings.Join(stands, " +"), "=" + strings.Join(printed, "+")}
	switch {
	case len(text.printed) > 200:
		return d.formula(terms - 1)
	case len(text.stands) > 200 || d.IntN(2) == 0:
		text.stands = text.printed
	}
	return text
}

func (d drawer) text() drawnText {
	switch d.IntN(12) {
	case 0, 1, 2:
		return drawnText{stands: []string{"1", "x", " =A1", "A1:B2", "#REF!"}[d.IntN(5)]}
	case 3:
		return d.formula(40)
	}
	return d.formula(1 + d.IntN(3))
}

func (d drawer) sheet() judge {
	j := judge{}
	for range d.IntN(8) {
		j[d.name()] = d.text()
	}
	return j
}

// line is sometimes none.
func (d drawer) line(row bool) int {
	most := map[bool]int{true: 99, false: 26}[row]
	switch d.IntN(12) {
	case 0:
		return most + 1 - d.IntN(3)
	case 1:
		return d.IntN(3) - 1
	}
	return 1 + d.IntN(10)
}

func holdJudged(t *testing.T, what string, got []api.Filled, err error, want judge, wrong api.Errno) {
	t.Helper()
	if plain.Told(err) != wrong || !slices.Equal(got, want.list()) {
		t.Fatalf("%s: %s, %v; want %s, %v", what, listed(got), err, listed(want.list()), wrong)
	}
}

// TestJudged holds all three, of drawn sheets, against the judge.
func TestJudged(t *testing.T) {
	d := drawer{rand.New(rand.NewPCG(10, 10))}
	told := map[string]int{}
	for range 10000 {
		j := d.sheet()
		l := j.list()
		row := d.IntN(2) == 0
		from, other, many := d.line(row), d.line(row), d.IntN(6)-d.IntN(20)/19
		most := map[bool]int{true: 99, false: 26}[row]
		may := from >= 1 && from <= most
		in, out, wrongIn, wrongOut := judge{}, judge{}, api.ErrRange, api.ErrRange
		if may && many >= 0 {
			in, wrongIn = j.changed(row, false, inserted(row, from, many))
			out, wrongOut = j.changed(row, true, deleted(row, from, many))
		}
		what := fmt.Sprint(listed(l), ": rows ", row, ", ", from, ", ")
		got, err := rows.Insert(l, row, from, many)
		holdJudged(t, fmt.Sprint("Insert of ", what, many), got, err, in, wrongIn)
		got, err = rows.Delete(l, row, from, many)
		holdJudged(t, fmt.Sprint("Delete of ", what, many), got, err, out, wrongOut)
		swapped, wrong := judge{}, api.ErrRange
		if may && other >= 1 && other <= most {
			swapped, wrong = j.swapped(row, from, other), api.OK
		}
		got, err = rows.Swap(l, row, from, other)
		holdJudged(t, fmt.Sprint("Swap of ", what, other), got, err, swapped, wrong)
		for name, wrong := range map[string]api.Errno{"Insert ": wrongIn, "Delete ": wrongOut, "Swap ": wrong} {
			told[name+wrong.Error()]++
		}
	}
	for _, word := range []string{"Insert OK", "Insert ErrRange", "Insert ErrFull", "Delete OK", "Delete ErrRange", "Delete ErrFull", "Swap OK", "Swap ErrRange"} {
		if told[word] < 200 {
			t.Errorf("%s was told only %d times", word, told[word])
		}
	}
}

// TestBack: what comes in and goes again leaves the sheet as it was, but for how formulas are written; what is swapped twice is all as it was.
func TestBack(t *testing.T) {
	d := drawer{rand.New(rand.NewPCG(11, 11))}
	held := 0
	for range 5000 {
		j := d.sheet()
		l := j.list()
		row, from, other, many := d.IntN(2) == 0, 1+d.IntN(13), 1+d.IntN(13), d.IntN(6)
		in, err := rows.Insert(l, row, from, many)
		// A ref that fell off stays lost: only a constant may have had that text.
		if err == nil && !slices.ContainsFunc(in, func(f api.Filled) bool { return f.Text[0] == '=' && strings.Contains(f.Text, lost) }) {
			out, err := rows.Delete(in, row, from, many)
			if err != nil || !alike(out, l, j) {
				t.Fatalf("Delete of Insert of %s: rows %v, %d, %d: %s, %v", listed(l), row, from, many, listed(out), err)
			}
			held++
		}
		once, err := rows.Swap(l, row, from, other)
		if err != nil {
			t.Fatalf("Swap of %s: %v", listed(l), err)
		}
		if twice, err := rows.Swap(once, row, other, from); err != nil || !slices.Equal(twice, l) {
			t.Fatalf("Swap of Swap of %s: rows %v, %d, %d: %s, %v", listed(l), row, from, other, listed(twice), err)
		}
	}
	if held < 1000 {
		t.Errorf("held only %d times", held)
	}
}

// alike: each text is the one that stood there, or that one as it is printed.
func alike(got, want []api.Filled, j judge) bool {
	return slices.EqualFunc(got, want, func(g, w api.Filled) bool {
		return g.Cell == w.Cell && (g.Text == w.Text || g.Text == j[named(w.Cell)].printed)
	})
}
