package check

import "tariff/syntax"

// workOfAll needs no bound on the way: within MaxText bytes and MaxDepth pairs
// the work stays below 9^8 times 1,000, which is far below 2^63.
func workOfAll(rules []syntax.Rule) int {
	work := 0
	for _, rule := range rules {
		work += workOf(rule)
	}
	return work
}

func workOf(rule syntax.Rule) int {
	first := workOfAll(rule.First)
	if rule.Kind == syntax.Loop {
		return 1 + rule.Count*(1+first)
	}
	second := workOfAll(rule.Second)
	return 1 + len(rule.Expr) + first + second
}
