package check

import (
	"tariff/api"
	"tariff/syntax"
)

// allClean answers true; or, if there is a rule that is not clean, false and
// the place of the first such, in the text's order.
func allClean(rules []syntax.Rule, ground int, labels [api.Names]int) (int, bool) {
	for _, rule := range rules {
		if !isClean(rule, ground, labels) {
			return rule.Place, false
		}
		all := ground | labelOf(rule.Expr, labels)
		place, ok := allClean(rule.First, all, labels)
		if !ok {
			return place, false
		}
		place, ok = allClean(rule.Second, all, labels)
		if !ok {
			return place, false
		}
	}
	return 0, true
}

// isClean looks at the rule alone, not at the rules of its blocks.
func isClean(rule syntax.Rule, ground int, labels [api.Names]int) bool {
	all := ground | labelOf(rule.Expr, labels)
	switch rule.Kind {
	case syntax.Give:
		return Flows(all, labels[rule.Name])
	case syntax.Open:
		return Flows(ground, rule.Label) && Flows(rule.Label, labels[rule.Name])
	case syntax.Tell:
		return Flows(all, rule.Label)
	}
	return true
}
