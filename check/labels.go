package check

import (
	"tariff/api"
	"tariff/syntax"
)

// labeling: the labels of all names, while they are sought.
type labeling struct {
	labels [api.Names]int
	fixed  [api.Names]bool // the name stands at the head: its label is never enlarged
	grown  bool            // a label was enlarged since this was last made false
}

// labelsOf answers the least labels: from nothing, enlarged until no rule asks
// for more. Each round but the last adds a secret to a name's label, so there
// are at most 1 + Names * Secrets rounds.
func labelsOf(tree syntax.Tree) [api.Names]int {
	var l labeling
	for _, head := range tree.Heads {
		l.labels[head.Name] = head.Label
		l.fixed[head.Name] = true
	}
	l.grown = true
	for l.grown {
		l.grown = false
		l.enlargeAll(tree.Rules, 0)
	}
	return l.labels
}

func (l *labeling) enlargeAll(rules []syntax.Rule, ground int) {
	for _, rule := range rules {
		l.enlargeFor(rule, ground)
	}
}

func (l *labeling) enlargeFor(rule syntax.Rule, ground int) {
	all := ground | labelOf(rule.Expr, l.labels)
	switch rule.Kind {
	case syntax.Give:
		l.enlarge(rule.Name, all)
	case syntax.Open:
		l.enlarge(rule.Name, ground|rule.Label)
	case syntax.Cond, syntax.Loop:
		l.enlargeAll(rule.First, all)
		l.enlargeAll(rule.Second, all)
	}
}

func (l *labeling) enlarge(name, label int) {
	if l.fixed[name] || Flows(label, l.labels[name]) {
		return
	}
	l.labels[name] |= label
	l.grown = true
}

// labelOf answers the label of an expression: empty, if it has no parts, as
// that of a Loop.
func labelOf(expr []syntax.Part, labels [api.Names]int) int {
	label := 0
	for _, part := range expr {
		if part.Op == api.Copy {
			label |= labels[part.Num]
		}
	}
	return label
}

// Flows tells whether each secret of the one label is in the other.
func Flows(label, other int) bool {
	return label|other == other
}
