package syntax

import "tariff/api"

// reader goes over the bytes of a text, blanks and line ends passed over.
type reader struct {
	text  string
	at    int    // the place of the byte to come, or the text's length
	depth int    // the pairs that are open
	parts []Part // of the expression that is being read
	// The byte to come cannot stand there. From then on no byte is seen or
	// taken, so that every loop and recursion ends and at stays where it is.
	bad bool
}

func (r *reader) skipBlanks() {
	for r.at < len(r.text) && isBlank(r.text[r.at]) {
		r.at++
	}
}

func isBlank(b byte) bool {
	return b == ' ' || b == '\n'
}

func (r *reader) atEnd() bool {
	return r.at >= len(r.text)
}

func (r *reader) fail() {
	r.bad = true
}

// sees tells whether the byte to come is b.
func (r *reader) sees(b byte) bool {
	return r.seesOne(b, b)
}

// seesOne tells whether the byte to come is one of low to high.
func (r *reader) seesOne(low, high byte) bool {
	if r.bad || r.at >= len(r.text) {
		return false
	}
	b := r.text[r.at]
	return low <= b && b <= high
}

// take passes over the byte to come, which must be b.
func (r *reader) take(b byte) {
	r.takeOne(b, b)
}

// takeOne passes over the byte to come, which must be one of low to high, and
// answers how far above low it is.
func (r *reader) takeOne(low, high byte) int {
	if !r.seesOne(low, high) {
		r.fail()
		return 0
	}
	above := int(r.text[r.at] - low)
	r.at++
	r.skipBlanks()
	return above
}

// takeOpening passes over the ( or { of a pair for which there must be room.
func (r *reader) takeOpening(b byte) {
	r.needRoom()
	r.take(b)
	r.depth++
}

// takeClosing passes over the ) or } of a pair.
func (r *reader) takeClosing(b byte) {
	r.take(b)
	r.depth--
}

// needRoom fails where one more pair would be too many.
func (r *reader) needRoom() {
	if r.depth >= api.MaxDepth {
		r.fail()
	}
}

func (r *reader) takeName() int {
	return r.takeOne('a', 'z')
}

// takeLabel answers the label as a number.
func (r *reader) takeLabel() int {
	if r.sees('-') {
		r.take('-')
		return 0
	}
	label := 0
	bit := 1
	for secret := byte('A'); secret <= 'D'; secret++ {
		if r.sees(secret) {
			r.take(secret)
			label += bit
		}
		bit *= 2
	}
	if label == 0 {
		r.fail()
	}
	return label
}

// takeNumber answers the number. A digit above MaxDigits is left: nothing
// that may stand behind a number takes it.
func (r *reader) takeNumber() int {
	num := r.takeOne('0', '9')
	for digits := 1; digits < api.MaxDigits && r.seesOne('0', '9'); digits++ {
		digit := r.takeOne('0', '9')
		num = num*10 + digit
	}
	return num
}
