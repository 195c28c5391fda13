// Package compile makes programs of rules.
package compile

import (
	"tariff/api"
	"tariff/check"
	"tariff/syntax"
)

// How the registers are used. Names have the registers 0 to 25.
const (
	one      = api.Names           // the number 1, by which loops count down
	counters = one + 1             // how often each loop is still to be done, the outermost first
	sides    = counters + maxLoops // the values for which no operation has come yet
)

// Each loop has a pair of braces round its block.
const maxLoops = api.MaxDepth

// Text answers a program that does what the rules of a text say.
//
// The bounds of programs are never reached. Of instructions there are at most 5
// for every 4 bytes of text (an empty loop has most), and at most 3 are done for
// a unit of work. A value waits for one operation of each rank at each depth of
// parentheses, which takes less than 30 registers.
func Text(text string) ([]api.Ins, api.Errno) {
	rules := check.Text(text)
	if rules.Errno != api.OK {
		return nil, rules.Errno
	}
	var w writer
	w.fields(rules.Tree.Heads)
	w.rules(rules.Tree.Rules, 0)
	w.put(api.End, 0, 0, 0)
	return w.code, api.OK
}

// writer: the instructions so far.
type writer struct {
	code []api.Ins
}

func (w *writer) put(op, a, b, c int) {
	w.code = append(w.code, api.Ins{Op: op, A: a, B: b, C: c})
}

func (w *writer) fields(heads []syntax.Head) {
	next := 0
	for _, head := range heads {
		if head.Field {
			w.put(api.In, head.Name, next, 0)
			next++
		}
	}
}

// rules writes rules that stand within so many loops.
func (w *writer) rules(rules []syntax.Rule, loops int) {
	for _, rule := range rules {
		w.rule(rule, loops)
	}
}

func (w *writer) rule(rule syntax.Rule, loops int) {
	switch rule.Kind {
	case syntax.Give:
		w.expr(rule.Expr)
		w.put(api.Copy, rule.Name, sides, 0)
	case syntax.Open:
		w.expr(rule.Expr)
		w.put(api.Copy, rule.Name, sides, 0)
		w.put(api.Open, rule.Place, rule.Label, sides)
	case syntax.Tell:
		w.expr(rule.Expr)
		w.put(api.Tell, rule.Place, rule.Label, sides)
	case syntax.Cond:
		w.cond(rule, loops)
	case syntax.Loop:
		w.loop(rule, loops)
	}
}

// cond leaves the numbers to go on at open until the blocks are written.
func (w *writer) cond(rule syntax.Rule, loops int) {
	w.expr(rule.Expr)
	when := len(w.code)
	w.put(api.When, sides, 0, 0)
	w.rules(rule.First, loops)
	jump := len(w.code)
	w.put(api.Jump, 0, 0, 0)
	second := len(w.code)
	w.rules(rule.Second, loops)
	behind := len(w.code)
	w.code[when].B = second
	w.code[when].C = behind
	w.code[jump].A = behind
}

// loop counts down to 0 in a register that no loop round it uses.
func (w *writer) loop(rule syntax.Rule, loops int) {
	counter := counters + loops
	w.put(api.Set, one, 1, 0)
	w.put(api.Set, counter, rule.Count, 0)
	block := len(w.code)
	w.rules(rule.First, loops+1)
	w.put(api.Sub, counter, counter, one)
	behind := len(w.code) + 2
	w.put(api.When, counter, behind, behind)
	w.put(api.Jump, block, 0, 0)
}

// expr lays the value of an expression in the first register of the sides.
func (w *writer) expr(expr []syntax.Part) {
	top := sides
	for _, part := range expr {
		switch part.Op {
		case api.Set, api.Copy:
			w.put(part.Op, top, part.Num, 0)
			top++
		case api.Neg:
			w.put(api.Neg, top-1, top-1, 0)
		default:
			top--
			w.put(part.Op, top-1, top-1, top)
		}
	}
}
