package tariff_test

import (
	"fmt"
	"math/rand"
	"reflect"
	"testing"

	"tariff/api"
	"tariff/tariff"
)

// callAll answers what every call answers to these arguments.
func callAll(text string, fields []int, code []api.Ins, reader int) string {
	checkErrno, checkPlace := tariff.Check(text)
	labels, labelsErrno := tariff.Labels(text)
	run, runErrno := tariff.Run(text, fields)
	validErrno, validPlace := tariff.Valid(code)
	exec, execErrno := tariff.Exec(code, fields)
	compiled, compileErrno := tariff.Compile(text)
	bill, billErrno := tariff.Bill(text, fields, reader)
	lines, readErrno := tariff.Read(text)
	return fmt.Sprint(checkErrno, checkPlace, labels, labelsErrno, run, runErrno, validErrno, validPlace, exec, execErrno, compiled, compileErrno, bill, billErrno, lines, readErrno)
}

func randomText(source *rand.Rand, bytes string) string {
	text := make([]byte, source.Intn(420))
	for i := range text {
		text[i] = bytes[source.Intn(len(bytes))]
	}
	return string(text)
}

const most = int(^uint(0) >> 1)

// P1: no call panics or goes on for ever, at whatever it is handed.
func TestEveryCallEnds(t *testing.T) {
	source := rand.New(rand.NewSource(3))
	numbers := []int{0, 1, -1, 16, 99, 100, 401, 2000, most, -most - 1}
	number := func() int { return numbers[source.Intn(len(numbers))] }
	every := make([]byte, 256)
	for b := range every {
		every[b] = byte(b)
	}
	alphabets := []string{string(every), "x=1;", "(){}*1", "((((((((1", "?!a:-ABCD;", "x=-1+2*3<4;^>:A(){}", " \n", "0123456789:!-\n"}
	callAll("", nil, nil, 0)
	for round := 0; round < 4000; round++ {
		text := randomText(source, alphabets[round%len(alphabets)])
		fields := make([]int, source.Intn(4))
		for i := range fields {
			fields[i] = number()
		}
		code := make([]api.Ins, source.Intn(6))
		for i := range code {
			code[i] = api.Ins{Op: source.Intn(18) - 1, A: number(), B: number(), C: number()}
		}
		callAll(text, fields, code, number())
	}
}

// P1: with an error of Check the place is 0, where none is named, and never outside the text.
func TestPlacesOfErrors(t *testing.T) {
	source := rand.New(rand.NewSource(4))
	for round := 0; round < 20000; round++ {
		text := randomText(source, "xa=1;?:-A(){}*^> \n"[:6+source.Intn(13)])
		errno, place := tariff.Check(text)
		named := errno == api.ErrSyntax || errno == api.ErrName || errno == api.ErrFlow
		if place < 0 || place > len(text) || !named && place != 0 {
			t.Fatalf("Check(%q) = %d, %d", text, errno, place)
		}
	}
}

var (
	someTexts = []string{"?p:-;?n:-;>-p*n;", "?p:A;?n:B;x=p;(n){y=1;>AB x;}{*3{z=z+1;}}", "?p:-;?n:-;^x:-=n/10;>-x;", "?p:-;?n:-;p=n+1;n=7;*9{>-p-n;}", "?a:A;?a:B;", "x=;", "*9{*9{*9{*9{x=1;}}}}", "", "3:1\n", "400:-305\n12:!2\n0:0\n", "3:-0\n"}
	someCode  = []api.Ins{{Op: api.Set, A: 0, B: 5}, {Op: api.Tell, A: 3, B: 1, C: 0}, {Op: api.In, A: 1, B: 1}, {Op: api.Tell, A: 4, B: 0, C: 1}, {Op: api.End}}
)

// P2: what is handed in stays as it was, its spare room too.
func TestNothingHandedInIsWritten(t *testing.T) {
	for _, text := range someTexts {
		fields := []int{250, 4, 77, 78, 79}
		code := append(append([]api.Ins{}, someCode...), api.Ins{Op: 7, A: 7, B: 7, C: 7}, api.Ins{Op: 8, A: 8, B: 8, C: 8})
		fieldsWere := append([]int{}, fields...)
		codeWas := append([]api.Ins{}, code...)
		callAll(text, fields[:2], code[:len(someCode)], 3)
		if !reflect.DeepEqual(fields, fieldsWere) || !reflect.DeepEqual(code, codeWas) {
			t.Errorf("with the text %q the lists became %v, %v", text, fields, code)
		}
	}
}

// P2: answers hang on the arguments alone, in whatever order calls are made.
func TestAnswersStayTheSame(t *testing.T) {
	var first []string
	for _, text := range someTexts {
		first = append(first, callAll(text, []int{250, 4}, someCode, 3))
	}
	for round := 0; round < 3; round++ {
		for i := len(someTexts) - 1; i >= 0; i-- {
			if again := callAll(someTexts[i], []int{250, 4}, someCode, 3); again != first[i] {
				t.Errorf("with the text %q the answers became %s, were %s", someTexts[i], again, first[i])
			}
		}
	}
}

func scribble(notes []api.Note, code []api.Ins, lines []api.Line) {
	notes, code, lines = notes[:cap(notes)], code[:cap(code)], lines[:cap(lines)]
	for i := range notes {
		notes[i] = api.Note{Kind: 9, Place: 9, Label: 9}
	}
	for i := range code {
		code[i] = api.Ins{Op: 9, A: 9, B: 9, C: 9}
	}
	for i := range lines {
		lines[i] = api.Line{Place: 9}
	}
}

// P2: what the caller writes into lists that came out changes no later answer,
// and no later call changes them.
func TestListsAreTheCallers(t *testing.T) {
	fields := []int{250, 4}
	for _, text := range someTexts {
		before := callAll(text, fields, someCode, 3)
		run, _ := tariff.Run(text, fields)
		exec, _ := tariff.Exec(someCode, fields)
		compiled, _ := tariff.Compile(text)
		lines, _ := tariff.Read(text)
		held := fmt.Sprint(run, exec, compiled, lines)
		for _, other := range someTexts {
			callAll(other, []int{9, 8}, someCode[:2], 15)
		}
		if now := fmt.Sprint(run, exec, compiled, lines); now != held {
			t.Errorf("with the text %q the lists became %s, were %s", text, now, held)
		}
		scribble(run, compiled, lines)
		scribble(exec, nil, nil)
		if after := callAll(text, fields, someCode, 3); after != before {
			t.Errorf("with the text %q the answers became %s, were %s", text, after, before)
		}
	}
}
