package bills

import (
	"tariff/api"
	"tariff/value"
)

const (
	most  = 1<<63 - 1
	least = -1 << 63
)

// Read answers the lines of a bill.
func Read(bill string) ([]api.Line, api.Errno) {
	s := scanner{text: bill}
	var lines []api.Line
	for !s.bad && !s.atEnd() {
		line := s.takeLine()
		lines = append(lines, line)
	}
	if s.bad {
		return nil, api.ErrBill
	}
	return lines, api.OK
}

func (s *scanner) takeLine() api.Line {
	var line api.Line
	line.Place = s.takeNumber(api.MaxText)
	s.take(':')
	line.Value = s.takeValue()
	s.take('\n')
	return line
}

func (s *scanner) takeValue() api.Value {
	if s.sees('!') {
		s.take('!')
		fault := api.Overflow + s.takeOne('1', '2')
		return api.Value{Fault: fault}
	}
	if s.sees('-') {
		s.take('-')
		num := s.takeMinus(least)
		return value.Number(num)
	}
	num := s.takeNumber(most)
	return value.Number(num)
}

// takeNumber passes over the digits of a number of 0 to bound. Behind a 0 that
// is the first no digit is taken, and nothing that may follow a number is one.
func (s *scanner) takeNumber(bound int) int {
	if s.sees('0') {
		s.take('0')
		return 0
	}
	num := s.takeMinus(-bound)
	return -num
}

// takeMinus passes over the digits of a number above 0 and answers minus the
// number, which must not be below bound (-9 or less). It goes below 0 since
// minus 2^63 can be held, 2^63 cannot.
func (s *scanner) takeMinus(bound int) int {
	num := -1 - s.takeOne('1', '9')
	for s.seesOne('0', '9') {
		digit := s.takeOne('0', '9')
		if num < (bound+digit)/10 {
			s.fail()
			return 0
		}
		num = num*10 - digit
	}
	return num
}
