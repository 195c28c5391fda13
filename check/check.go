// Package check tells whether a text is rules that may be used.
package check

import (
	"tariff/api"
	"tariff/syntax"
)

// Rules: what a text says, if it is rules that may be used; else the first
// error, the place that it names, and nothing more.
type Rules struct {
	Errno  api.Errno
	Place  int
	Tree   syntax.Tree
	Labels [api.Names]int
}

// Text looks for errors in the order in which the document names them.
func Text(text string) Rules {
	if len(text) > api.MaxText {
		return Rules{Errno: api.ErrLong}
	}
	tree, place, ok := syntax.Parse(text)
	if !ok {
		return Rules{Errno: api.ErrSyntax, Place: place}
	}
	place, ok = headsDiffer(tree.Heads)
	if !ok {
		return Rules{Errno: api.ErrName, Place: place}
	}
	if workOfAll(tree.Rules) > api.MaxWork {
		return Rules{Errno: api.ErrLarge}
	}
	labels := labelsOf(tree)
	place, ok = allClean(tree.Rules, 0, labels)
	if !ok {
		return Rules{Errno: api.ErrFlow, Place: place}
	}
	return Rules{Tree: tree, Labels: labels}
}

// headsDiffer answers true; or, if there is a head whose name stands in one
// ahead of it, false and the place of the name in the first such.
func headsDiffer(heads []syntax.Head) (int, bool) {
	for i, head := range heads {
		if hasName(heads[:i], head.Name) {
			return head.Place, false
		}
	}
	return 0, true
}

func hasName(heads []syntax.Head, name int) bool {
	for _, head := range heads {
		if head.Name == name {
			return true
		}
	}
	return false
}
