// Package check tells whether a text is rules that may be used.
package check

import (
	"tariff/api"
	"tariff/syntax"
)

// Text answers the first error of the text, and the place that it names.
func Text(text string) (api.Errno, int) {
	if len(text) > api.MaxText {
		return api.ErrLong, 0
	}
	tree, place, ok := syntax.Parse(text)
	if !ok {
		return api.ErrSyntax, place
	}
	place, ok = headsDiffer(tree.Heads)
	if !ok {
		return api.ErrName, place
	}
	if workOfAll(tree.Rules) > api.MaxWork {
		return api.ErrLarge, 0
	}
	return api.OK, 0
}

// headsDiffer answers true; or, if there is a head whose name stands in one
// ahead of it, false and the place of the name in the first such.
func headsDiffer(heads []syntax.Head) (int, bool) {
	for i, head := range heads {
		if hasName(heads[:i], head.Name) {
			return head.Place, false
		}
	}
	return 0, true
}

func hasName(heads []syntax.Head, name int) bool {
	for _, head := range heads {
		if head.Name == name {
			return true
		}
	}
	return false
}
