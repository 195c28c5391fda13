package tariff_test

import (
	"testing"

	"tariff/api"
	"tariff/tariff"
)

// ins answers an instruction; what is left out is 0.
func ins(op int, more ...int) api.Ins {
	more = append(more, 0, 0, 0)
	return api.Ins{Op: op, A: more[0], B: more[1], C: more[2]}
}

func program(code ...api.Ins) []api.Ins { return code }

func wantValid(t *testing.T, code []api.Ins, errno api.Errno, place int) {
	t.Helper()
	if e, at := tariff.Valid(code); e != errno || at != place {
		t.Errorf("Valid(%d instructions, %.300v) = %d, %d, want %d, %d", len(code), code, e, at, errno, place)
	}
}

// What each operation has A, B and C for: r a register, i an instruction,
// f a field, p a place, l a label, n any number, - nothing.
var uses = []string{"---", "rn-", "rr-", "rr-", "rrr", "rrr", "rrr", "rrr", "rrr", "rrr", "rrr", "rf-", "i--", "rii", "plr", "plr"}

func mayBe(use byte, num, count int) bool {
	switch use {
	case 'n':
		return true
	case 'r':
		return 0 <= num && num <= 99
	case 'i':
		return 0 <= num && num <= count-1
	case 'f':
		return 0 <= num && num <= 25
	case 'p':
		return 0 <= num && num <= 400
	case 'l':
		return 0 <= num && num <= 15
	}
	return num == 0
}

// P9: every operation, and beyond, with numbers at and beside every bound, at
// the beginning, in the middle and at the end.
func TestEveryInstruction(t *testing.T) {
	numbers := []int{0, 1, 2, 3, 15, 16, 25, 26, 99, 100, 101, 400, 401, 511, 512, -1, -99, 256, 65536, 1 << 32, 1<<32 + 1, -1 << 32, most, least}
	ops := []int{-1, -2, 16, 17, 32, 256, 256 + 4, 1 << 32, 1<<32 + 4, most, least, -4}
	for op := range 16 {
		ops = append(ops, op)
	}
	for _, op := range ops {
		for _, count := range []int{1, 3, 16, 101, 512} {
			for _, place := range []int{0, count / 2, count - 1} {
				code := make([]api.Ins, count)
				for _, a := range numbers {
					for _, b := range numbers {
						for _, c := range numbers {
							good := op >= 0 && op < 16 && mayBe(uses[op][0], a, count) && mayBe(uses[op][1], b, count) && mayBe(uses[op][2], c, count)
							good = good && (place < count-1 || op == 0 || op == 12)
							errno, at := api.OK, 0
							if !good {
								errno, at = api.ErrCode, place
							}
							code[place] = api.Ins{Op: op, A: a, B: b, C: c}
							if e, got := tariff.Valid(code); e != errno || got != at {
								t.Fatalf("Valid of %v as number %d of %d = %d, %d, want %d, %d", code[place], place, count, e, got, errno, at)
							}
						}
					}
				}
			}
		}
	}
}

// P9: how many there may be.
func TestHowManyInstructions(t *testing.T) {
	wantValid(t, nil, api.ErrCode, 0)
	wantValid(t, program(), api.ErrCode, 0)
	wantValid(t, make([]api.Ins, 0, 10), api.ErrCode, 0)
	for _, count := range []int{1, 2, 1999, 2000} {
		wantValid(t, make([]api.Ins, count), api.OK, 0)
	}
	for _, count := range []int{2001, 2002, 4000, 1 << 16} {
		wantValid(t, make([]api.Ins, count), api.ErrLarge, 0)
		bad := make([]api.Ins, count)
		for i := range bad {
			bad[i] = ins(-1)
		}
		wantValid(t, bad, api.ErrLarge, 0)
		wantValid(t, bad[:2000], api.ErrCode, 0)
	}
	// The spare room is not looked at.
	wantValid(t, append(make([]api.Ins, 5), ins(99))[:5], api.OK, 0)
	wantValid(t, append(make([]api.Ins, 5), ins(api.End))[:5:5], api.OK, 0)
	wantValid(t, program(ins(api.Set, 1, 1), ins(api.End))[:1], api.ErrCode, 0)
}

// P9: where an instruction may go on, to the last and no further.
func TestWhereToGoOn(t *testing.T) {
	for _, count := range []int{1, 2, 5, 1999, 2000} {
		for _, to := range []int{0, 1, count / 2, count - 2, count - 1, count, count + 1, 2000, -1} {
			jump, when := make([]api.Ins, count), make([]api.Ins, count)
			jump[count-1] = ins(api.Jump, to)
			when[0] = ins(api.When, 0, to, 0)
			other := append([]api.Ins{}, when...)
			other[0] = ins(api.When, 0, 0, to)
			errno, place := api.OK, 0
			if to < 0 || to >= count {
				errno, place = api.ErrCode, count-1
			}
			wantValid(t, jump, errno, place)
			if count > 1 {
				wantValid(t, when, errno, 0)
				wantValid(t, other, errno, 0)
			}
		}
	}
}

// P9: the first that is none is told, the last among them.
func TestFirstBadInstruction(t *testing.T) {
	set, end, bad := ins(api.Set, 1, 1), ins(api.End), ins(api.Set, 100, 1)
	wantValid(t, program(set, bad, set, bad, end), api.ErrCode, 1)
	wantValid(t, program(set, set, bad, bad, bad), api.ErrCode, 2)
	wantValid(t, program(bad, set, set), api.ErrCode, 0)
	wantValid(t, program(set, bad, set), api.ErrCode, 1)
	wantValid(t, program(set, set, bad), api.ErrCode, 2)
	wantValid(t, program(set, set, set), api.ErrCode, 2)
	wantValid(t, program(end, end, set), api.ErrCode, 2)
	wantValid(t, program(end, ins(api.Jump, 3), set), api.ErrCode, 1)
	wantValid(t, program(end, ins(api.Jump, 2), set), api.ErrCode, 2)
	wantValid(t, program(set, set, end), api.OK, 0)
	wantValid(t, program(set, set, ins(api.Jump, 0)), api.OK, 0)
	wantValid(t, program(ins(api.Jump, 1), ins(api.Jump, 0)), api.OK, 0)
	wantValid(t, program(end, end, end), api.OK, 0)
	full := make([]api.Ins, 2000)
	for i := range full {
		full[i] = ins(api.Set, i%100, least+i)
	}
	wantValid(t, full, api.ErrCode, 1999)
	full[1999] = ins(api.Jump, 1999)
	wantValid(t, full, api.OK, 0)
	full[1998] = ins(api.Jump, 2000)
	wantValid(t, full, api.ErrCode, 1998)
}
