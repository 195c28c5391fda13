package tariff_test

import (
	"math/rand"
	"reflect"
	"strings"
	"testing"

	"tariff/api"
	"tariff/tariff"
)

type executing struct {
	code   []api.Ins
	fields []int
	notes  string
}

func execAll(t *testing.T, all []executing) {
	t.Helper()
	for _, x := range all {
		notes, errno := tariff.Exec(x.code, x.fields)
		if got := written(notes); errno != api.OK || got != x.notes {
			t.Errorf("Exec(%v, %d) = %s, %d, want %s", x.code, x.fields, got, errno, x.notes)
		}
	}
}

var (
	end   = ins(api.End)
	tell0 = ins(api.Tell, 0, 0, 0)
)

// P10: what each instruction does.
func TestInstructions(t *testing.T) {
	execAll(t, []executing{
		{program(end), nil, ""}, {program(end, tell0, end), nil, ""}, {program(ins(api.Jump, 2), tell0, end), nil, ""},
		// Registers are 0 at the beginning.
		{program(tell0, ins(api.Tell, 1, 0, 99), ins(api.Tell, 2, 0, 50), end), nil, "told@0/0=0 told@1/0=0 told@2/0=0"},
		{program(ins(api.Set, 0, 5), tell0, ins(api.Tell, 1, 0, 1), ins(api.Set, 0, least), tell0, ins(api.Set, 0, most), tell0, end), nil, "told@0/0=5 told@1/0=0 told@0/0=-9223372036854775808 told@0/0=9223372036854775807"},
		{program(ins(api.Set, 99, 5), ins(api.Copy, 0, 99), ins(api.Set, 99, 6), tell0, ins(api.Tell, 1, 0, 99), end), nil, "told@0/0=5 told@1/0=6"},
		{program(ins(api.Set, 3, 5), ins(api.Copy, 3, 3), ins(api.Tell, 0, 0, 3), ins(api.Copy, 3, 4), ins(api.Tell, 0, 0, 3), end), nil, "told@0/0=5 told@0/0=0"},
		{program(ins(api.Set, 1, 5), ins(api.Neg, 0, 1), tell0, ins(api.Neg, 0, 0), tell0, ins(api.Tell, 1, 0, 1), end), nil, "told@0/0=-5 told@0/0=5 told@1/0=5"},
		{program(ins(api.In, 0, 2), tell0, ins(api.In, 0, 0), tell0, ins(api.In, 99, 1), ins(api.Tell, 0, 0, 99), end), []int{7, least, most}, "told@0/0=9223372036854775807 told@0/0=7 told@0/0=-9223372036854775808"},
		{program(ins(api.In, 0, 0), tell0, end), []int{7, 8, 9}, "told@0/0=7"}, {program(ins(api.In, 0, 25), tell0, end), append(make([]int, 25), 8, 9, 10), "told@0/0=8"},
		// One register on all sides.
		{program(ins(api.Set, 0, 3), ins(api.Add, 0, 0, 0), tell0, ins(api.Mul, 0, 0, 0), tell0, ins(api.Sub, 0, 0, 0), tell0, ins(api.Same, 0, 0, 0), tell0, ins(api.Less, 0, 0, 0), tell0, end), nil, "told@0/0=6 told@0/0=36 told@0/0=0 told@0/0=1 told@0/0=0"},
		{program(ins(api.Set, 0, 7), ins(api.Set, 1, 2), ins(api.Sub, 1, 0, 1), ins(api.Tell, 0, 0, 1), ins(api.Sub, 0, 1, 0), tell0, end), nil, "told@0/0=5 told@0/0=-2"},
		// Place and label of a note, at their bounds.
		{program(ins(api.Set, 7, 9), ins(api.Tell, 400, 15, 7), ins(api.Open, 400, 15, 7), ins(api.Tell, 0, 0, 7), ins(api.Open, 0, 0, 7), ins(api.Open, 12, 5, 8), end), nil, "told@400/15=9 opened@400/15=9 told@0/0=9 opened@0/0=9 opened@12/5=0"},
		// A note holds what the register held when it was left.
		{program(ins(api.Set, 0, 1), tell0, ins(api.Set, 0, 2), tell0, end), nil, "told@0/0=1 told@0/0=2"},
		{program(ins(api.Jump, 3), end, end, tell0, ins(api.Jump, 1)), nil, "told@0/0=0"},
	})
}

// P10: each operation with every pair of a few numbers, as under Values.
func TestInstructionsOfValues(t *testing.T) {
	numbers := []int{0, 1, -1, 2, -2, 7, -7, 10, most, most - 1, -most, least, most/2 + 1, least / 2, 1 << 31, -1 << 31, 1 << 32, -1 << 32, 3037000499, 3037000500, -3037000500}
	for i, op := range []byte("+-*/%<=") {
		code := program(ins(api.In, 1, 0), ins(api.In, 2, 1), ins(api.Add+i, 0, 1, 2), tell0, ins(api.Neg, 0, 1), tell0, end)
		for _, a := range numbers {
			for _, b := range numbers {
				notes, errno := tariff.Exec(code, []int{a, b})
				wanted := []api.Note{{Value: whole(a).with(op, whole(b)).value()}, {Value: whole(a).minus().value()}}
				if errno != api.OK || !reflect.DeepEqual(notes, wanted) {
					t.Errorf("%d %c %d and minus %d: Exec tells %v, %d, want %v", a, op, b, a, notes, errno, wanted)
				}
			}
		}
	}
}

// P10: faults in registers.
func TestFaultsInRegisters(t *testing.T) {
	// Register 1 is Overflow, 2 ByZero, 3 the number 5.
	faults := program(ins(api.Set, 3, most), ins(api.Set, 2, 1), ins(api.Add, 1, 3, 2), ins(api.Div, 2, 2, 99), ins(api.Set, 3, 5))
	for op := api.Add; op <= api.Same; op++ {
		code := faults
		for _, sides := range [][2]int{{1, 2}, {2, 1}, {1, 1}, {2, 2}, {1, 3}, {3, 1}, {2, 3}, {3, 2}, {1, 98}, {98, 1}, {2, 98}, {98, 2}} {
			code = append(code, ins(op, 0, sides[0], sides[1]), tell0)
		}
		execAll(t, []executing{{append(code, end), nil, "told@0/0=!" + strings.Join(strings.Split("121211221122", ""), " told@0/0=!")}})
	}
	execAll(t, []executing{
		{append(faults, ins(api.Neg, 0, 1), tell0, ins(api.Neg, 0, 2), tell0, ins(api.Copy, 0, 1), tell0, ins(api.Copy, 0, 2), tell0, ins(api.Open, 1, 2, 0), end), nil, "told@0/0=!1 told@0/0=!2 told@0/0=!1 told@0/0=!2 opened@1/2=!2"},
		{append(faults, ins(api.Set, 1, 4), ins(api.Copy, 2, 3), ins(api.Add, 0, 1, 2), tell0, end), nil, "told@0/0=9"},
		{append(faults, ins(api.In, 1, 0), ins(api.Tell, 0, 0, 1), end), []int{4}, "told@0/0=4"},
		{append(faults, ins(api.Mul, 0, 1, 98), tell0, ins(api.Rem, 0, 3, 98), tell0, ins(api.Set, 4, least), ins(api.Neg, 0, 4), tell0, end), nil, "told@0/0=!1 told@0/0=!2 told@0/0=!1"},
	})
}

// P10: which way When goes on.
func TestWhen(t *testing.T) {
	// Tells 1 for a number that is not 0, 2 for 0, 3 for a fault.
	ways := program(ins(api.When, 9, 3, 5), ins(api.Tell, 1, 0, 0), end, ins(api.Tell, 2, 0, 0), end, ins(api.Tell, 3, 0, 0), end)
	shifted := func(first ...api.Ins) []api.Ins {
		code := append(first, ways...)
		when := &code[len(first)]
		when.B += len(first)
		when.C += len(first)
		return code
	}
	execAll(t, []executing{{ways, nil, "told@2/0=0"}, {shifted(ins(api.Div, 9, 0, 0)), nil, "told@3/0=0"}, {shifted(ins(api.Rem, 9, 0, 0)), nil, "told@3/0=0"}, {shifted(ins(api.Set, 9, least), ins(api.Neg, 9, 9)), nil, "told@3/0=0"}})
	for _, num := range []int{1, -1, 2, 256, 1 << 32, most, least} {
		execAll(t, []executing{{shifted(ins(api.Set, 9, num)), nil, "told@1/0=0"}})
	}
	// Back, to itself, to the first and to the last.
	execAll(t, []executing{
		{program(ins(api.When, 0, 1, 1), tell0, ins(api.Same, 0, 0, 0), ins(api.When, 1, 4, 4), end), nil, "told@0/0=0"},
		{program(ins(api.When, 0, 2, 0), end, ins(api.Set, 0, 4), tell0, ins(api.Jump, 0)), nil, "told@0/0=4"},
		{program(ins(api.When, 0, 3, 3), tell0, tell0, end), nil, ""},
	})
	for _, loop := range [][]api.Ins{program(ins(api.When, 0, 0, 1), end), program(ins(api.Div, 0, 0, 0), ins(api.When, 0, 2, 1), end)} {
		if notes, errno := tariff.Exec(loop, nil); notes != nil || errno != api.ErrSteps {
			t.Errorf("Exec(%v) = %v, %d, want ErrSteps", loop, notes, errno)
		}
	}
}

// counting answers a program of which 4 + 3*rounds + tells instructions are
// done, End counted: it counts down to 0, and tells that 0 so many times.
func counting(rounds, tells int) []api.Ins {
	code := program(ins(api.Set, 0, rounds), ins(api.Set, 1, 1), ins(api.When, 0, 5, 5), ins(api.Sub, 0, 0, 1), ins(api.Jump, 2))
	for range tells {
		code = append(code, tell0)
	}
	return append(code, end)
}

// P10: as many steps as there may be, and more, End counted.
func TestSteps(t *testing.T) {
	for _, steps := range []int{4, 5, 6, 7, 100, 49000, 49998, 49999, 50000, 50001, 50002, 50003, 60000, 1 << 20, 1 << 32} {
		for tells := 0; tells <= min(steps-4, 1500); tells++ {
			if tells > 3 && tells < 1490 || (steps-4-tells)%3 != 0 {
				continue
			}
			wanted, count := api.OK, tells
			if steps > 50000 {
				wanted, count = api.ErrSteps, 0
			}
			notes, errno := tariff.Exec(counting((steps-4-tells)/3, tells), nil)
			if errno != wanted || len(notes) != count || errno != api.OK && notes != nil {
				t.Errorf("%d steps: %d notes, %d, want %d, %d", steps, len(notes), errno, count, wanted)
			}
		}
	}
	for _, loop := range [][]api.Ins{program(ins(api.Jump, 0)), program(tell0, ins(api.Jump, 0)), program(ins(api.Set, 0, 5), ins(api.Tell, 3, 1, 0), ins(api.Jump, 1)), program(ins(api.Jump, 2), end, ins(api.Jump, 0))} {
		if notes, errno := tariff.Exec(loop, nil); notes != nil || errno != api.ErrSteps {
			t.Errorf("Exec(%v) = %d notes, %d, want ErrSteps", loop, len(notes), errno)
		}
	}
	// All instructions that there may be, one behind the other.
	full := make([]api.Ins, api.MaxCode)
	for i := range full {
		full[i] = tell0
	}
	full[api.MaxCode-1] = end
	if notes, errno := tariff.Exec(full, nil); len(notes) != api.MaxCode-1 || errno != api.OK {
		t.Errorf("%d notes, %d", len(notes), errno)
	}
}

// P10, P1: the error of Valid, then ErrInput, then ErrSteps; with an error no notes.
func TestExecRefused(t *testing.T) {
	large := append(make([]api.Ins, api.MaxCode-1), ins(api.In, 0, 3), ins(99))
	for _, c := range []struct {
		code   []api.Ins
		fields int
		errno  api.Errno
	}{
		{nil, 0, api.ErrCode}, {program(), 3, api.ErrCode}, {large, 0, api.ErrLarge}, {make([]api.Ins, 2001), 0, api.ErrLarge}, {make([]api.Ins, 2000), 0, api.OK},
		{program(tell0, ins(16), end), 0, api.ErrCode}, {program(tell0, end, ins(api.Set, 100)), 0, api.ErrCode}, {program(tell0), 0, api.ErrCode}, {program(ins(api.In, 0, 26), end), 30, api.ErrCode}, {program(ins(api.In, 0, -1), end), 30, api.ErrCode},
		{program(ins(api.In, 0, 5), ins(16), end), 0, api.ErrCode}, {program(ins(api.In, 0, 5), tell0), 0, api.ErrCode}, {program(ins(api.Jump, 0), ins(16), end), 0, api.ErrCode},
		{program(ins(api.In, 0, 0), end), 0, api.ErrInput}, {program(tell0, ins(api.In, 0, 0), end), 0, api.ErrInput}, {program(ins(api.In, 0, 1), end), 1, api.ErrInput}, {program(ins(api.In, 0, 25), end), 25, api.ErrInput}, {program(ins(api.In, 0, 25), end), 26, api.OK}, {program(ins(api.In, 0, 25), end), 27, api.OK}, {program(ins(api.In, 0, 0), end), 1, api.OK},
		// Done or not.
		{program(end, ins(api.In, 0, 0), end), 0, api.ErrInput}, {program(end, ins(api.In, 0, 3), end), 3, api.ErrInput}, {program(end, ins(api.In, 0, 3), end), 4, api.OK}, {program(ins(api.Jump, 2), ins(api.In, 0, 9), end), 9, api.ErrInput}, {program(ins(api.In, 0, 0), ins(api.In, 0, 2), ins(api.In, 0, 1), end), 2, api.ErrInput},
		{program(ins(api.Jump, 0), ins(api.In, 0, 1), end), 1, api.ErrInput}, {program(ins(api.Jump, 0), ins(api.In, 0, 1), end), 2, api.ErrSteps}, {program(ins(api.Jump, 0), ins(api.In, 0, 1), end), 1, api.ErrInput}, {program(ins(api.In, 0, 1), ins(api.Jump, 0)), 1, api.ErrInput},
		{program(end), 0, api.OK}, {program(end), 100, api.OK},
		// Only In has a field: 9 and 11 here are numbers, registers and places.
		{program(ins(api.Set, 11, 9), ins(api.Copy, 11, 9), ins(api.Add, 9, 11, 9), ins(api.Tell, 11, 9, 9), ins(api.Open, 9, 11, 9), ins(api.When, 9, 6, 6), end), 0, api.OK},
	} {
		notes, errno := tariff.Exec(c.code, make([]int, c.fields))
		if errno != c.errno || errno != api.OK && notes != nil {
			t.Errorf("Exec(%.200v, %d fields) = %v, %d, want %d", c.code, c.fields, notes, errno, c.errno)
		}
	}
}

// anyIns answers an instruction that may stand among so many. What it goes on
// at is mostly behind it, so that some programs end.
func anyIns(source *rand.Rand, at, count int) api.Ins {
	reg := func() int { return []int{0, 1, 2, 3, 98, 99}[source.Intn(6)] }
	to := func() int {
		if source.Intn(40) == 0 {
			return source.Intn(count)
		}
		return at + 1 + source.Intn(min(count-at-1, 6))
	}
	if at == count-1 {
		return []api.Ins{end, ins(api.Jump, source.Intn(count))}[source.Intn(40)/39]
	}
	switch op := source.Intn(40); {
	case op == 0:
		return end
	case op < 6:
		return ins(api.Set, reg(), []int{0, 1, -1, 2, 3, -10, 1 << 32, most, least}[source.Intn(9)])
	case op < 9:
		return ins(api.In, reg(), source.Intn(3))
	case op < 11:
		return ins(api.Copy+source.Intn(2), reg(), reg())
	case op < 12:
		return ins(api.Jump, to())
	case op < 16:
		return ins(api.When, reg(), to(), to())
	case op < 24:
		return ins(api.Tell+source.Intn(2), source.Intn(401), source.Intn(16), reg())
	}
	return ins(api.Add+source.Intn(7), reg(), reg(), reg())
}

// follow does a program step by step, with numbers without a bound.
func follow(code []api.Ins, fields []int) ([]api.Note, api.Errno) {
	var regs [100]amount
	for i := range regs {
		regs[i] = whole(0)
	}
	var notes []api.Note
	for at, done := 0, 1; done <= 50000; done++ {
		i := code[at]
		at++
		switch i.Op {
		case 0:
			return notes, api.OK
		case 1:
			regs[i.A] = whole(i.B)
		case 2:
			regs[i.A] = regs[i.B]
		case 3:
			regs[i.A] = regs[i.B].minus()
		case 11:
			regs[i.A] = whole(fields[i.B])
		case 12:
			at = i.A
		case 13:
			if regs[i.A].num == nil {
				at = i.C
			} else if regs[i.A].num.Sign() == 0 {
				at = i.B
			}
		case 14, 15:
			notes = append(notes, api.Note{Kind: i.Op - 14, Place: i.A, Label: i.B, Value: regs[i.C].value()})
		default:
			regs[i.A] = regs[i.B].with("+-*/%<="[i.Op-4], regs[i.C])
		}
	}
	return nil, api.ErrSteps
}

// P10: programs of every make, against a second way to do them.
func TestPrograms(t *testing.T) {
	source := rand.New(rand.NewSource(9))
	const tries = 8000
	var told, opened, faults, endless int
	for range tries {
		code := make([]api.Ins, 1+source.Intn(60))
		for i := range code {
			code[i] = anyIns(source, i, len(code))
		}
		fields := []int{source.Intn(5) - 2, []int{0, 1, most, least}[source.Intn(4)], source.Int()}
		if errno, place := tariff.Valid(code); errno != api.OK || place != 0 {
			t.Fatalf("Valid(%v) = %d, %d", code, errno, place)
		}
		wanted, wantedErrno := follow(code, fields)
		notes, errno := tariff.Exec(code, fields)
		if got, wanted := written(notes), written(wanted); errno != wantedErrno || got != wanted {
			t.Fatalf("Exec(%v, %d) = %.300s, %d, want %.300s, %d", code, fields, got, errno, wanted, wantedErrno)
		}
		if errno == api.ErrSteps {
			endless++
			continue
		}
		for _, note := range notes {
			told += 1 - note.Kind
			opened += note.Kind
			if note.Value.Fault != api.Fine {
				faults++
			}
		}
	}
	t.Logf("%d programs, %d without end; %d told, %d opened, %d faults", tries, endless, told, opened, faults)
	if endless < tries/100 || endless > tries/2 || told < tries || opened < tries || faults < tries/4 {
		t.Errorf("too few: %d programs, %d without end; %d told, %d opened, %d faults", tries, endless, told, opened, faults)
	}
}

// P2: instructions and fields stay as they were, their spare room too; and
// notes that came out are the caller's.
func TestExecLeavesListsAlone(t *testing.T) {
	room := program(ins(77), ins(api.In, 0, 1), ins(api.Add, 0, 0, 0), tell0, ins(api.Open, 1, 1, 0), end, ins(78), ins(79))
	fields := []int{1, 2, 3, 4, 5}
	roomWas, fieldsWere := append([]api.Ins{}, room...), append([]int{}, fields...)
	first, _ := tariff.Exec(room[1:6], fields[1:3])
	tariff.Valid(room[1:6])
	tariff.Exec(room[1:5], fields[1:3])
	tariff.Exec(room[1:6], fields[1:2])
	if !reflect.DeepEqual(room, roomWas) || !reflect.DeepEqual(fields, fieldsWere) {
		t.Errorf("the lists became %v, %v", room, fields)
	}
	second, _ := tariff.Exec(room[1:6], fields[1:3])
	scribble(first, nil, nil)
	third, _ := tariff.Exec(room[1:6], fields[1:3])
	tariff.Exec(program(ins(api.Set, 0, 9), tell0, tell0, tell0, end), nil)
	for _, notes := range [][]api.Note{second, third} {
		if got := written(notes); got != "told@0/0=6 opened@1/1=6" {
			t.Errorf("the notes became %s", got)
		}
	}
	// Registers do not keep what an earlier run left in them.
	tariff.Exec(program(ins(api.Set, 0, 9), ins(api.Div, 99, 1, 1), end), nil)
	execAll(t, []executing{{program(tell0, ins(api.Tell, 0, 0, 99), end), nil, "told@0/0=0 told@0/0=0"}})
}
