// Package value does the operations on values: numbers of 64 bits, and faults.
package value

import "tariff/api"

const (
	most  = 1<<63 - 1
	least = -1 << 63
)

// Number answers the value that is this number.
func Number(num int) api.Value {
	return api.Value{Num: num}
}

func fault(why int) api.Value {
	return api.Value{Fault: why}
}

// Neg answers minus the value.
func Neg(v api.Value) api.Value {
	if v.Fault != api.Fine {
		return v
	}
	return sub(0, v.Num)
}

// Of answers what comes out of an operation with two sides, api.Add to
// api.Same.
func Of(op int, left, right api.Value) api.Value {
	if left.Fault != api.Fine {
		return left
	}
	if right.Fault != api.Fine {
		return right
	}
	return ofNumbers(op, left.Num, right.Num)
}

func ofNumbers(op, a, b int) api.Value {
	switch op {
	case api.Add:
		return add(a, b)
	case api.Sub:
		return sub(a, b)
	case api.Mul:
		return mul(a, b)
	case api.Div:
		return div(a, b)
	case api.Rem:
		return rem(a, b)
	case api.Less:
		return truth(a < b)
	case api.Same:
		return truth(a == b)
	}
	return Number(0)
}

func add(a, b int) api.Value {
	if b > 0 && a > most-b || b < 0 && a < least-b {
		return fault(api.Overflow)
	}
	return Number(a + b)
}

func sub(a, b int) api.Value {
	if b < 0 && a > most+b || b > 0 && a < least+b {
		return fault(api.Overflow)
	}
	return Number(a - b)
}

func mul(a, b int) api.Value {
	if !productFits(a, b) {
		return fault(api.Overflow)
	}
	return Number(a * b)
}

// productFits divides the bound, not the product, which may be too great to be
// held. The quotients are cut towards 0: so no side that fits is left out, and
// none taken in that does not.
func productFits(a, b int) bool {
	switch {
	case a > 0 && b > 0:
		return a <= most/b
	case a > 0 && b < 0:
		return b >= least/a
	case a < 0 && b > 0:
		return a >= least/b
	case a < 0 && b < 0:
		return b >= most/a
	}
	return true
}

func div(a, b int) api.Value {
	if b == 0 {
		return fault(api.ByZero)
	}
	if a == least && b == -1 {
		return fault(api.Overflow)
	}
	return Number(a / b)
}

func rem(a, b int) api.Value {
	if b == 0 {
		return fault(api.ByZero)
	}
	if b == -1 {
		// Nothing is ever left; and the quotient of the least number does not fit.
		return Number(0)
	}
	return Number(a % b)
}

func truth(holds bool) api.Value {
	if holds {
		return Number(1)
	}
	return Number(0)
}
