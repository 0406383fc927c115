package rule

import (
	"slices"

	"sccsettle/addr"
	"sccsettle/api"
	"sccsettle/value"
)

// question asks a cell with its value whether it breaks a rule.
type question func(s api.Shown) bool

// questions are made of rules that Check lets through, one of each.
func questions(rules []api.Rule) []question {
	var l []question
	for _, r := range rules {
		keeps := keeping(r)
		l = append(l, func(s api.Shown) bool { return addr.Within(s.Cell, r.Box) && !keeps(s.Value) })
	}
	return l
}

func askOf(s api.Shown) func(q question) bool {
	return func(q question) bool { return q(s) }
}

// keeping asks whether a value keeps a rule, wherever it stands.
func keeping(r api.Rule) func(v api.Value) bool {
	fits := fitting(r)
	return func(v api.Value) bool {
		switch v.Kind {
		case api.Blank:
			return true
		case api.Bad:
			return false
		}
		return fits(v)
	}
}

// fitting asks what a rule of its kind asks of a value that is neither blank nor bad.
func fitting(r api.Rule) func(v api.Value) bool {
	switch r.Kind {
	case api.Between:
		return func(v api.Value) bool { return v.Kind == api.Number && r.Low <= v.Num && v.Num <= r.High }
	case api.OneOf:
		return func(v api.Value) bool { return slices.Contains(r.Texts, value.Show(v)) }
	}
	return func(v api.Value) bool { return len(value.Show(v)) <= r.High }
}

func checkRule(r api.Rule) error {
	if err := addr.CheckBox(r.Box); err != nil {
		return err
	}
	if r.Kind < api.Between || r.Kind > api.Short {
		return api.ErrRange
	}
	if len(r.Texts) > api.MaxWide || slices.ContainsFunc(r.Texts, isLong) {
		return api.ErrFull
	}
	return nil
}

func isLong(text string) bool { return len(text) > api.MaxText }
