package tariff_test

import (
	"math/big"
	"math/rand"
	"strconv"
	"strings"
	"testing"

	"tariff/api"
	"tariff/tariff"
)

// amount: a number, held without a bound, or (num is nil) a fault.
type amount struct {
	num   *big.Int
	fault int
}

func whole(num int) amount { return amount{num: big.NewInt(int64(num))} }

func bounded(num *big.Int) amount {
	if !num.IsInt64() {
		return amount{fault: api.Overflow}
	}
	return amount{num: num}
}

func (a amount) value() api.Value {
	if a.num == nil {
		return api.Value{Fault: a.fault}
	}
	return api.Value{Num: int(a.num.Int64())}
}

func (a amount) minus() amount {
	if a.num == nil {
		return a
	}
	return bounded(new(big.Int).Neg(a.num))
}

// with: as Values say.
func (a amount) with(op byte, b amount) amount {
	if a.num == nil {
		return a
	}
	if b.num == nil {
		return b
	}
	out := new(big.Int)
	switch op {
	case '+':
		out.Add(a.num, b.num)
	case '-':
		out.Sub(a.num, b.num)
	case '*':
		out.Mul(a.num, b.num)
	case '<':
		if a.num.Cmp(b.num) < 0 {
			return whole(1)
		}
	case '=':
		if a.num.Cmp(b.num) == 0 {
			return whole(1)
		}
	default:
		if b.num.Sign() == 0 {
			return amount{fault: api.ByZero}
		}
		quotient, left := out.QuoRem(a.num, b.num, new(big.Int))
		if op == '%' {
			return bounded(left)
		}
		return bounded(quotient)
	}
	return bounded(out)
}

// P8: each operation, with many pairs of numbers.
func TestEveryPair(t *testing.T) {
	numbers := []int{0, 1, -1, 2, -2, 3, -3, 10, -10, most, most - 1, -most, least, most / 2, most/2 + 1, least / 2, least/2 - 1, most / 3, least / 3, 1 << 31, -1 << 31, 1 << 32, -1 << 32, 1<<32 - 1, 1<<32 + 1, 3037000499, 3037000500, -3037000499, -3037000500}
	source := rand.New(rand.NewSource(7))
	for range 40 {
		numbers = append(numbers, int(source.Uint64()>>source.Intn(63)), -int(source.Uint64()>>(1+source.Intn(62))))
	}
	for _, a := range numbers {
		for _, b := range numbers {
			notes, errno := tariff.Run(everyOperation, []int{a, b})
			if errno != api.OK || len(notes) != 8 {
				t.Fatalf("Run(%q, %d, %d) = %v, %d", everyOperation, a, b, notes, errno)
			}
			for i, op := range []byte("+-*/%<=") {
				if wanted := whole(a).with(op, whole(b)).value(); notes[i].Value != wanted {
					t.Errorf("%d %c %d is %v, want %v", a, op, b, notes[i].Value, wanted)
				}
			}
			if wanted := whole(a).minus().value(); notes[7].Value != wanted {
				t.Errorf("minus %d is %v, want %v", a, notes[7].Value, wanted)
			}
		}
	}
}

// world: what the rules have come to.
type world struct {
	names [api.Names]amount
	notes []api.Note
}

// A worker writes rules, and beside the text a function that does what they
// say: so nothing here needs to read a text.
type worker struct {
	source *rand.Rand
	names  string
	open   bool // every name has the empty label, so that all rules are clean
	text   strings.Builder
}

func (w *worker) write(piece string) {
	w.text.WriteString(piece)
	w.text.WriteString([]string{"", "", "", "", "", "", " ", "\n"}[w.source.Intn(8)])
}

func (w *worker) oneOf(bytes string) byte {
	b := bytes[w.source.Intn(len(bytes))]
	w.write(string(b))
	return b
}

// nameLabel writes a label of a name and answers its number.
func (w *worker) nameLabel() int {
	if w.open {
		w.write("-")
		return 0
	}
	return w.label()
}

// label writes a label and answers its number.
func (w *worker) label() int {
	label := w.source.Intn(16)
	if w.source.Intn(3) == 0 {
		label = 15
	}
	if label == 0 {
		w.write("-")
	}
	for i := range 4 {
		if label>>i&1 == 1 {
			w.write("ABCD"[i : i+1])
		}
	}
	return label
}

type expression func(*world) amount

func (w *worker) expr(depth int) expression {
	e := w.sum(depth)
	if w.source.Intn(4) == 0 {
		left, op, right := e, w.oneOf("<="), w.sum(depth)
		e = func(all *world) amount { return left(all).with(op, right(all)) }
	}
	return e
}

func (w *worker) sum(depth int) expression {
	e := w.product(depth)
	for w.source.Intn(3) == 0 {
		left, op, right := e, w.oneOf("+-"), w.product(depth)
		e = func(all *world) amount { return left(all).with(op, right(all)) }
	}
	return e
}

func (w *worker) product(depth int) expression {
	e := w.unit(depth)
	for w.source.Intn(3) == 0 {
		left, op, right := e, w.oneOf("*/%"), w.unit(depth)
		e = func(all *world) amount { return left(all).with(op, right(all)) }
	}
	return e
}

func (w *worker) unit(depth int) expression {
	switch w.source.Intn(8) {
	case 0:
		w.write("-")
		inner := w.unit(depth)
		return func(all *world) amount { return inner(all).minus() }
	case 1:
		if depth < api.MaxDepth {
			w.write("(")
			inner := w.expr(depth + 1)
			w.write(")")
			return inner
		}
	case 2, 3:
		num := []int{0, 1, 1, 2, 3, 10, 4294967296, 999999999999999999}[w.source.Intn(8)]
		w.write(strconv.Itoa(num))
		return func(*world) amount { return whole(num) }
	}
	name := w.oneOf(w.names) - 'a'
	return func(all *world) amount { return all.names[name] }
}

type deed func(*world)

func (w *worker) block(depth int) deed {
	w.write("{")
	var deeds []deed
	for range w.source.Intn(4) {
		deeds = append(deeds, w.rule(depth+1))
	}
	w.write("}")
	return func(all *world) {
		for _, do := range deeds {
			do(all)
		}
	}
}

func (w *worker) rule(depth int) deed {
	kind := w.source.Intn(11)
	if depth >= api.MaxDepth {
		kind %= 7
	}
	place := w.text.Len()
	switch kind {
	case 0, 1, 2:
		name := w.oneOf(w.names) - 'a'
		w.write("=")
		e := w.expr(depth)
		w.write(";")
		return func(all *world) { all.names[name] = e(all) }
	case 3:
		w.write("^")
		name := w.oneOf(w.names) - 'a'
		w.write(":")
		label := w.nameLabel()
		w.write("=")
		e := w.expr(depth)
		w.write(";")
		return func(all *world) {
			all.names[name] = e(all)
			all.notes = append(all.notes, api.Note{Kind: 1, Place: place, Label: label, Value: all.names[name].value()})
		}
	case 4, 5, 6:
		w.write(">")
		label := w.label()
		e := w.expr(depth)
		w.write(";")
		return func(all *world) {
			all.notes = append(all.notes, api.Note{Kind: 0, Place: place, Label: label, Value: e(all).value()})
		}
	case 7, 8, 9:
		return w.condition(depth)
	}
	w.write("*")
	times := w.oneOf("123456789") - '0'
	block := w.block(depth)
	return func(all *world) {
		for range times {
			block(all)
		}
	}
}

func (w *worker) condition(depth int) deed {
	w.write("(")
	e := w.expr(depth + 1)
	w.write(")")
	first, second := w.block(depth), func(*world) {}
	if w.source.Intn(2) == 0 {
		second = w.block(depth)
	}
	return func(all *world) {
		c := e(all)
		if c.num != nil && c.num.Sign() != 0 {
			first(all)
		}
		if c.num != nil && c.num.Sign() == 0 {
			second(all)
		}
	}
}

// head answers the fields.
func (w *worker) head(all *world) []int {
	var fields []int
	for _, i := range w.source.Perm(len(w.names)) {
		name := w.names[i : i+1]
		switch w.source.Intn(4) {
		case 0:
			w.write("!" + name + ":")
			w.nameLabel()
			w.write(";")
		case 1, 2:
			num := []int{0, 1, -1, 2, 7, -7, most, least, 3037000500, w.source.Int()}[w.source.Intn(10)]
			w.write("?" + name + ":-;")
			fields = append(fields, num)
			all.names[name[0]-'a'] = whole(num)
		}
	}
	return fields
}

// cleanRules answers a text that Check lets pass, fields for it, and the notes
// that it leaves with them.
func cleanRules(source *rand.Rand) (string, []int, []api.Note) {
	for {
		w := &worker{source: source, names: "abcxyz"[:1+source.Intn(6)], open: source.Intn(3) > 0}
		var all world
		for i := range all.names {
			all.names[i] = whole(0)
		}
		fields := w.head(&all)
		var deeds []deed
		for range 3 + source.Intn(12) {
			deeds = append(deeds, w.rule(0))
		}
		text := w.text.String()
		if errno, _ := tariff.Check(text); errno != api.OK {
			continue
		}
		for _, do := range deeds {
			do(&all)
		}
		return text, fields, all.notes
	}
}

// P8: rules of every make, against a second way to work them out.
func TestWorkedOut(t *testing.T) {
	source := rand.New(rand.NewSource(8))
	const tries = 6000
	var opened, faults, short, full int
	for range tries {
		text, fields, wanted := cleanRules(source)
		notes, errno := tariff.Run(text, fields)
		if got, wanted := written(notes), written(wanted); errno != api.OK || got != wanted {
			t.Fatalf("Run(%q, %d) = %s, %d, want %s", text, fields, got, errno, wanted)
		}
		for _, note := range notes {
			opened += note.Kind
			if note.Value.Fault != api.Fine {
				faults++
			}
		}
		if len(notes) < 3 {
			short++
		} else if len(notes) > 10 {
			full++
		}
	}
	t.Logf("%d texts, %d with less than 3 notes, %d with more than 10; %d opened, %d faults", tries, short, full, opened, faults)
	if short > tries*2/3 || full < tries/20 || opened < tries/4 || faults < tries/4 {
		t.Errorf("too few: %d texts, %d with less than 3 notes, %d with more than 10; %d opened, %d faults", tries, short, full, opened, faults)
	}
}
