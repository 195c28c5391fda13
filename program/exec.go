package program

import (
	"tariff/api"
	"tariff/value"
)

// Exec answers the notes that a program leaves.
func Exec(code []api.Ins, fields []int) ([]api.Note, api.Errno) {
	verdict := Judge(code)
	if verdict.Errno != api.OK {
		return nil, verdict.Errno
	}
	if !hasFields(code, len(fields)) {
		return nil, api.ErrInput
	}
	var s state
	for step := 0; step < api.MaxSteps; step++ {
		ins := code[s.next]
		if ins.Op == api.End {
			return s.notes, api.OK
		}
		s.do(ins, fields)
	}
	return nil, api.ErrSteps
}

// hasFields tells whether every field that is taken in is among so many.
func hasFields(code []api.Ins, count int) bool {
	for _, ins := range code {
		if ins.Op == api.In && ins.B >= count {
			return false
		}
	}
	return true
}

// state: how far a program has come. Of a program that Judge lets pass, next
// stays the number of an instruction: the last one never goes on behind itself.
type state struct {
	regs  [api.MaxRegs]api.Value
	notes []api.Note
	next  int
}

func (s *state) do(ins api.Ins, fields []int) {
	s.next++
	switch ins.Op {
	case api.Set:
		s.regs[ins.A] = value.Number(ins.B)
	case api.Copy:
		s.regs[ins.A] = s.regs[ins.B]
	case api.Neg:
		s.regs[ins.A] = value.Neg(s.regs[ins.B])
	case api.In:
		s.regs[ins.A] = value.Number(fields[ins.B])
	case api.Jump:
		s.next = ins.A
	case api.When:
		s.choose(ins)
	case api.Tell:
		s.leave(api.Told, ins)
	case api.Open:
		s.leave(api.Opened, ins)
	default:
		s.regs[ins.A] = value.Of(ins.Op, s.regs[ins.B], s.regs[ins.C])
	}
}

func (s *state) choose(ins api.Ins) {
	v := s.regs[ins.A]
	switch {
	case v.Fault != api.Fine:
		s.next = ins.C
	case v.Num == 0:
		s.next = ins.B
	}
}

func (s *state) leave(kind int, ins api.Ins) {
	note := api.Note{Kind: kind, Place: ins.A, Label: ins.B, Value: s.regs[ins.C]}
	s.notes = append(s.notes, note)
}
