package run

import (
	"tariff/api"
	"tariff/syntax"
	"tariff/value"
)

// pile: the values for which no operation has come yet, the last on top.
type pile struct {
	values []api.Value
}

func (p *pile) push(v api.Value) {
	p.values = append(p.values, v)
}

// pop answers 0 if there is no value: of an expression that was read that does
// not come about, since both sides stand ahead of their operation.
func (p *pile) pop() api.Value {
	last := len(p.values) - 1
	if last < 0 {
		return value.Number(0)
	}
	v := p.values[last]
	p.values = p.values[:last]
	return v
}

// valueOf answers the value of an expression, the values of names being given.
func valueOf(expr []syntax.Part, names [api.Names]api.Value) api.Value {
	var p pile
	for _, part := range expr {
		v := p.take(part, names)
		p.push(v)
	}
	return p.pop()
}

// take answers the value of a part, its sides taken off the pile.
func (p *pile) take(part syntax.Part, names [api.Names]api.Value) api.Value {
	switch part.Op {
	case api.Set:
		return value.Number(part.Num)
	case api.Copy:
		return names[part.Num]
	case api.Neg:
		v := p.pop()
		return value.Neg(v)
	}
	right := p.pop()
	left := p.pop()
	return value.Of(part.Op, left, right)
}
