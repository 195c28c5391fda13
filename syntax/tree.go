// Package syntax reads the text of rules: whether it is of their form, and what stands in it.
package syntax

// Tree: what stands in a text of rules.
type Tree struct {
	Heads []Head
	Rules []Rule
}

// Head: the label that a name has from the beginning.
type Head struct {
	Field bool // the name is a field's
	Place int  // of the name
	Name  int  // 0 to 25, for a to z
	Label int
}

// The kinds of rules.
const (
	Give = 0 // x=e;
	Open = 1 // ^x:L=e;
	Tell = 2 // >L e;
	Cond = 3 // (e){..}{..}
	Loop = 4 // *n{..}
)

// Rule: what its kind has no use for is 0, or empty.
type Rule struct {
	Kind   int
	Place  int // of its first byte
	Name   int // 0 to 25, for a to z
	Label  int
	Count  int // of Loop: how many times
	Expr   []Part
	First  []Rule // the block of Loop, the first of Cond
	Second []Rule
}

// Part: a number, a name or an operation of an expression. Both sides of an
// operation stand ahead of it, so that parentheses and ranks need not be kept.
type Part struct {
	Op  int // api.Set: a number; api.Copy: a name; api.Neg to api.Same: that operation
	Num int // the number; of a name 0 to 25, for a to z
}
