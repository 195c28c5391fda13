// Package program tells whether instructions are a program, and runs programs.
package program

import "tariff/api"

// Verdict: whether instructions are a program; if not, why, and the number of
// the first that is none.
type Verdict struct {
	Errno api.Errno
	Place int
}

// Judge looks for errors in the order in which the document names them.
func Judge(code []api.Ins) Verdict {
	if len(code) > api.MaxCode {
		return Verdict{Errno: api.ErrLarge}
	}
	if len(code) == 0 {
		return Verdict{Errno: api.ErrCode}
	}
	for i, ins := range code {
		if !fits(ins, len(code)) {
			return Verdict{Errno: api.ErrCode, Place: i}
		}
	}
	last := len(code) - 1
	if !endsCode(code[last]) {
		return Verdict{Errno: api.ErrCode, Place: last}
	}
	return Verdict{}
}

// endsCode: what any other instruction goes on to would be behind the last.
func endsCode(ins api.Ins) bool {
	return ins.Op == api.End || ins.Op == api.Jump
}

// fits tells whether an instruction may stand among so many, wherever that is.
func fits(ins api.Ins, count int) bool {
	switch ins.Op {
	case api.End:
		return ins.A == 0 && ins.B == 0 && ins.C == 0
	case api.Set:
		return isRegister(ins.A) && ins.C == 0
	case api.Copy, api.Neg:
		return isRegister(ins.A) && isRegister(ins.B) && ins.C == 0
	case api.Add, api.Sub, api.Mul, api.Div, api.Rem, api.Less, api.Same:
		return isRegister(ins.A) && isRegister(ins.B) && isRegister(ins.C)
	case api.In:
		return isRegister(ins.A) && isBelow(ins.B, api.Names) && ins.C == 0
	case api.Jump:
		return isBelow(ins.A, count) && ins.B == 0 && ins.C == 0
	case api.When:
		return isRegister(ins.A) && isBelow(ins.B, count) && isBelow(ins.C, count)
	case api.Tell, api.Open:
		return isBelow(ins.A, api.MaxText+1) && isBelow(ins.B, 1<<api.Secrets) && isRegister(ins.C)
	}
	return false
}

func isRegister(num int) bool {
	return isBelow(num, api.MaxRegs)
}

func isBelow(num, bound int) bool {
	return num >= 0 && num < bound
}
