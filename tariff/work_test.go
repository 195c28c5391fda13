package tariff_test

import (
	"math/rand"
	"strconv"
	"strings"
	"testing"

	"tariff/api"
	"tariff/tariff"
)

// A piece of text and its work, written side by side from the document's Words.
type piece struct {
	text string
	work int
}

type writer struct {
	source *rand.Rand
}

func (w writer) oneOf(bytes string) string {
	i := w.source.Intn(len(bytes))
	return bytes[i : i+1]
}

func (w writer) unit(depth int) piece {
	switch w.source.Intn(5) {
	case 0:
		inner := w.unit(depth)
		return piece{"-" + inner.text, inner.work + 1}
	case 1:
		if depth < 8 {
			inner := w.expr(depth + 1)
			return piece{"(" + inner.text + ")", inner.work}
		}
	case 2:
		return piece{strconv.Itoa(w.source.Intn(2000)), 1}
	}
	return piece{w.oneOf("abxyz"), 1}
}

func (w writer) expr(depth int) piece {
	all := w.unit(depth)
	for w.source.Intn(2) == 0 {
		right := w.unit(depth)
		all = piece{all.text + w.oneOf("+-*/%") + right.text, all.work + 1 + right.work}
	}
	if w.source.Intn(4) == 0 {
		right := w.unit(depth)
		all = piece{all.text + w.oneOf("<=") + right.text, all.work + 1 + right.work}
	}
	return all
}

func (w writer) block(depth int) piece {
	var all piece
	for w.source.Intn(2) == 0 {
		rule := w.rule(depth + 1)
		all = piece{all.text + rule.text, all.work + rule.work}
	}
	all.text = "{" + all.text + "}"
	return all
}

func (w writer) rule(depth int) piece {
	kind := w.source.Intn(6)
	if depth == 8 {
		kind %= 3
	}
	if kind == 5 {
		times := 1 + w.source.Intn(3)
		block := w.block(depth)
		return piece{"*" + strconv.Itoa(times) + block.text, 1 + times*(1+block.work)}
	}
	if kind >= 3 {
		e := w.expr(depth + 1)
		all := piece{"(" + e.text + ")", 1 + e.work}
		for blocks := kind; blocks < 5; blocks++ {
			block := w.block(depth)
			all = piece{all.text + block.text, all.work + block.work}
		}
		return all
	}
	e := w.expr(depth)
	begin := []string{"x=", "^x:-=", ">" + w.oneOf("-ABCD")}[kind]
	return piece{begin + e.text + ";", 1 + e.work}
}

// fill adds rules of known work up to just the work that is asked for.
func fill(p piece, work int) string {
	for _, f := range []piece{{"*9{*9{*9{}}}", 910}, {"*9{*9{}}", 100}, {"*9{}", 10}, {"x=1;", 2}} {
		for work-p.work >= f.work && work-p.work != f.work+1 {
			p = piece{p.text + f.text, p.work + f.work}
		}
	}
	if work-p.work == 3 {
		p = piece{p.text + "x=-1;", p.work + 3}
	}
	if p.work != work {
		return ""
	}
	return p.text
}

// P5: rules of every make, filled up to the bound, and to one more.
func TestWorkBound(t *testing.T) {
	w := writer{rand.New(rand.NewSource(2))}
	tried := 0
	for tried < 2000 {
		base := w.rule(0)
		if len(base.text) > 150 || base.work > api.MaxWork-10 {
			continue
		}
		for _, extra := range []int{0, 1} {
			text := fill(base, api.MaxWork+extra)
			if text == "" || len(text) > api.MaxText {
				t.Fatalf("no rules made of %q", base.text)
			}
			wanted := []api.Errno{api.OK, api.ErrLarge}[extra]
			if errno, place := tariff.Check(text); errno != wanted || place != 0 {
				t.Fatalf("Check(%q), of the work %d, = %d, %d, want %d, 0", text, api.MaxWork+extra, errno, place, wanted)
			}
		}
		tried++
	}
}

// P5: the head has no work.
func TestHeadHasNoWork(t *testing.T) {
	var heads strings.Builder
	for name := 'a'; name <= 'z'; name++ {
		heads.WriteString("!" + string(name) + ":-;")
	}
	full := fill(piece{}, api.MaxWork)
	checkAll(t, []want{{heads.String() + full, api.OK, 0}, {heads.String() + fill(piece{}, api.MaxWork+1), api.ErrLarge, 0}})
}
