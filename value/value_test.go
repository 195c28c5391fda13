package value

import (
	"math/big"
	"testing"

	"tariff/api"
)

var numbers = []int{least, least + 1, least + 2, least / 2, least/2 - 1, -1 << 32, -3037000500, -3037000499, -1 << 31, -10, -7, -3, -2, -1, 0, 1, 2, 3, 7, 10, 1 << 31, 3037000499, 3037000500, 1 << 32, most / 2, most/2 + 1, most/2 + 2, most - 1, most}

// exact answers the value of a number however great.
func exact(num *big.Int) api.Value {
	if !num.IsInt64() {
		return api.Value{Fault: api.Overflow}
	}
	return api.Value{Num: int(num.Int64())}
}

func wanted(op, a, b int) api.Value {
	left, right, out := big.NewInt(int64(a)), big.NewInt(int64(b)), new(big.Int)
	if b == 0 && (op == api.Div || op == api.Rem) {
		return api.Value{Fault: api.ByZero}
	}
	switch op {
	case api.Add:
		out.Add(left, right)
	case api.Sub:
		out.Sub(left, right)
	case api.Mul:
		out.Mul(left, right)
	case api.Div:
		out.Quo(left, right)
	case api.Rem:
		out.Rem(left, right)
	case api.Less:
		if left.Cmp(right) < 0 {
			out.SetInt64(1)
		}
	case api.Same:
		if left.Cmp(right) == 0 {
			out.SetInt64(1)
		}
	}
	return exact(out)
}

func TestNumbers(t *testing.T) {
	for _, a := range numbers {
		for _, b := range numbers {
			for op := api.Add; op <= api.Same; op++ {
				if got, want := Of(op, Number(a), Number(b)), wanted(op, a, b); got != want {
					t.Errorf("operation %d of %d and %d is %v, want %v", op, a, b, got, want)
				}
			}
		}
		if got, want := Neg(Number(a)), exact(new(big.Int).Neg(big.NewInt(int64(a)))); got != want {
			t.Errorf("minus %d is %v, want %v", a, got, want)
		}
	}
}

func TestFaults(t *testing.T) {
	faults := []api.Value{{Fault: api.Overflow}, {Fault: api.ByZero}}
	for _, left := range faults {
		if got := Neg(left); got != left {
			t.Errorf("minus %v is %v", left, got)
		}
		for op := api.Add; op <= api.Same; op++ {
			for _, right := range faults {
				if got := Of(op, left, right); got != left {
					t.Errorf("operation %d of %v and %v is %v", op, left, right, got)
				}
			}
			for _, num := range numbers {
				if got := Of(op, left, Number(num)); got != left {
					t.Errorf("operation %d of %v and %d is %v", op, left, num, got)
				}
				if got := Of(op, Number(num), left); got != left {
					t.Errorf("operation %d of %d and %v is %v", op, num, left, got)
				}
			}
		}
	}
}
