// Package run works rules out.
package run

import (
	"tariff/api"
	"tariff/check"
	"tariff/syntax"
	"tariff/value"
)

// Text answers the notes that the rules of a text leave.
func Text(text string, fields []int) ([]api.Note, api.Errno) {
	rules := check.Text(text)
	if rules.Errno != api.OK {
		return nil, rules.Errno
	}
	if len(fields) != countFields(rules.Tree.Heads) {
		return nil, api.ErrInput
	}
	var s state
	s.takeFields(rules.Tree.Heads, fields)
	s.doAll(rules.Tree.Rules)
	return s.notes, api.OK
}

func countFields(heads []syntax.Head) int {
	count := 0
	for _, head := range heads {
		if head.Field {
			count++
		}
	}
	return count
}

// state: how far the rules are worked out.
type state struct {
	values [api.Names]api.Value
	notes  []api.Note
}

// takeFields gives the fields' names their values; there are as many fields as
// heads that name one.
func (s *state) takeFields(heads []syntax.Head, fields []int) {
	next := 0
	for _, head := range heads {
		if head.Field && next < len(fields) {
			s.values[head.Name] = value.Number(fields[next])
			next++
		}
	}
}

// doAll ends: how often a rule is done is counted in the work of all, and that
// has a bound.
func (s *state) doAll(rules []syntax.Rule) {
	for _, rule := range rules {
		s.do(rule)
	}
}

func (s *state) do(rule syntax.Rule) {
	switch rule.Kind {
	case syntax.Give:
		v := valueOf(rule.Expr, s.values)
		s.values[rule.Name] = v
	case syntax.Open:
		v := valueOf(rule.Expr, s.values)
		s.values[rule.Name] = v
		s.leave(api.Opened, rule, v)
	case syntax.Tell:
		v := valueOf(rule.Expr, s.values)
		s.leave(api.Told, rule, v)
	case syntax.Cond:
		s.choose(rule)
	case syntax.Loop:
		for i := 0; i < rule.Count; i++ {
			s.doAll(rule.First)
		}
	}
}

func (s *state) leave(kind int, rule syntax.Rule, v api.Value) {
	note := api.Note{Kind: kind, Place: rule.Place, Label: rule.Label, Value: v}
	s.notes = append(s.notes, note)
}

// choose does one block of a condition; of one that is a fault, neither.
func (s *state) choose(rule syntax.Rule) {
	v := valueOf(rule.Expr, s.values)
	switch {
	case v.Fault != api.Fine:
		return
	case v.Num != 0:
		s.doAll(rule.First)
	default:
		s.doAll(rule.Second)
	}
}
