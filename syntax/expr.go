package syntax

import "tariff/api"

// takeExpr answers the parts of a whole expression.
func (r *reader) takeExpr() []Part {
	r.parts = nil
	r.comparison()
	parts := r.parts
	r.parts = nil
	return parts
}

func (r *reader) addPart(op, num int) {
	r.parts = append(r.parts, Part{Op: op, Num: num})
}

// comparison reads an e: it lets one < or = stand between sums, no more.
func (r *reader) comparison() {
	r.sum()
	op := r.takeOperation('<', api.Less, '=', api.Same)
	if op != noOperation {
		r.sum()
		r.addPart(op, 0)
	}
}

// sum reads an s.
func (r *reader) sum() {
	r.product()
	op := r.takeOperation('+', api.Add, '-', api.Sub)
	for op != noOperation {
		r.product()
		r.addPart(op, 0)
		op = r.takeOperation('+', api.Add, '-', api.Sub)
	}
}

// product reads a p.
func (r *reader) product() {
	r.unit()
	op := r.takeProductOperation()
	for op != noOperation {
		r.unit()
		r.addPart(op, 0)
		op = r.takeProductOperation()
	}
}

// noOperation: api.End, which no expression has.
const noOperation = api.End

func (r *reader) takeProductOperation() int {
	if r.sees('%') {
		r.take('%')
		return api.Rem
	}
	return r.takeOperation('*', api.Mul, '/', api.Div)
}

// takeOperation passes over b1 or b2, if one of them is to come, and answers
// its operation.
func (r *reader) takeOperation(b1 byte, op1 int, b2 byte, op2 int) int {
	if r.sees(b1) {
		r.take(b1)
		return op1
	}
	if r.sees(b2) {
		r.take(b2)
		return op2
	}
	return noOperation
}

// unit reads a u: any number of - ahead of a value.
func (r *reader) unit() {
	minuses := 0
	for r.sees('-') {
		r.take('-')
		minuses++
	}
	r.plainUnit()
	for ; minuses > 0; minuses-- {
		r.addPart(api.Neg, 0)
	}
}

func (r *reader) plainUnit() {
	switch {
	case r.seesOne('0', '9'):
		num := r.takeNumber()
		r.addPart(api.Set, num)
	case r.seesOne('a', 'z'):
		name := r.takeName()
		r.addPart(api.Copy, name)
	case r.sees('('):
		r.takeOpening('(')
		r.comparison()
		r.takeClosing(')')
	default:
		r.fail()
	}
}
