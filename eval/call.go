package eval

import (
	"sccsettle/addr"
	"sccsettle/api"
	"sccsettle/value"
)

// anyMany is more arguments than a node can have.
const anyMany = api.MaxText

// What an argument has to be, as a letter.
const (
	aValue  = 'v'
	aNumber = 'n' // the Number of a value
	aText   = 't' // a value as it is shown
	aBox    = 'b'
)

// function is what a name stands for; without work it is none.
type function struct {
	least, most int // arguments
	work        func(c call) api.Value
}

// call has the arguments of a call, none of them worked out: some functions leave that be.
type call struct {
	values Values
	nodes  []api.Node
}

// argument is one that is worked out, in the field that its letter asks for.
type argument struct {
	value  api.Value
	number int
	text   string
	grid   grid
}

// functionOf finds a function by its name.
func functionOf(name string) function {
	groups := [...]func(name string) function{ofMany, ofChoice, ofNumbers, ofTexts, ofBoxes}
	for _, group := range groups {
		if f := group(name); f.work != nil {
			return f
		}
	}
	return function{}
}

// taking makes a function whose arguments all have to be worked out, each as its letter says.
func taking(letters string, work func(a []argument) api.Value) function {
	return function{len(letters), len(letters), func(c call) api.Value {
		a, wrong := c.arguments(letters)
		if isBad(wrong) {
			return wrong
		}
		return work(a)
	}}
}

// arguments works out all of them; or else it tells what is bad. A box that is none is told ahead of all values, and a value that is bad ahead of one that is no number.
func (c call) arguments(letters string) (a []argument, wrong api.Value) {
	a = make([]argument, len(letters))
	for i := range a {
		if letters[i] == aBox {
			g, is := c.grid(i)
			if !is {
				return nil, bad(api.BadValue)
			}
			a[i].grid = g
		}
	}
	for i := range a {
		if letters[i] != aBox {
			a[i].value = c.value(i)
			if isBad(a[i].value) {
				return nil, a[i].value
			}
		}
	}
	for i := range a {
		switch letters[i] {
		case aNumber:
			v := value.Number(a[i].value)
			if isBad(v) {
				return nil, v
			}
			a[i].number = v.Num
		case aText:
			a[i].text = value.Show(a[i].value)
		}
	}
	return a, api.Value{}
}

// value works out an argument.
func (c call) value(i int) api.Value { return c.values.Of(c.nodes[i]) }

// grid is an argument that is a box; false, if it is none.
func (c call) grid(i int) (grid, bool) {
	n := c.nodes[i]
	if n.Kind != api.NodeBox {
		return grid{}, false
	}
	box, err := addr.Box(n.Ref.Cell, n.To.Cell)
	return grid{c.values, box}, err == nil
}
