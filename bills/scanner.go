package bills

// scanner goes over the bytes of a bill.
type scanner struct {
	text string
	at   int  // the place of the byte to come, or the text's length
	bad  bool // the text is no bill, whatever is still to come
}

func (s *scanner) atEnd() bool {
	return s.at >= len(s.text)
}

func (s *scanner) fail() {
	s.bad = true
}

// sees tells whether the byte to come is b.
func (s *scanner) sees(b byte) bool {
	return s.seesOne(b, b)
}

// seesOne tells whether the byte to come is one of low to high.
func (s *scanner) seesOne(low, high byte) bool {
	if s.atEnd() {
		return false
	}
	b := s.text[s.at]
	return low <= b && b <= high
}

// take passes over the byte to come, which must be b.
func (s *scanner) take(b byte) {
	s.takeOne(b, b)
}

// takeOne passes over the byte to come, which must be one of low to high, and
// answers how far above low it is.
func (s *scanner) takeOne(low, high byte) int {
	if !s.seesOne(low, high) {
		s.fail()
		return 0
	}
	above := int(s.text[s.at] - low)
	s.at++
	return above
}
