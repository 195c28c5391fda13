package tariff_test

import (
	"fmt"
	"reflect"
	"strings"
	"testing"

	"tariff/api"
	"tariff/tariff"
)

const least = -most - 1

// written answers notes as text: told or opened, @ and the place, / and the
// label, = and the value.
func written(notes []api.Note) string {
	var all []string
	for _, note := range notes {
		kind := fmt.Sprint("kind ", note.Kind)
		switch note.Kind {
		case api.Told:
			kind = "told"
		case api.Opened:
			kind = "opened"
		}
		v := fmt.Sprint(note.Value.Num)
		if note.Value != (api.Value{Num: note.Value.Num}) {
			v = fmt.Sprint("!", note.Value.Fault)
		}
		if note.Value.Fault != api.Fine && note.Value.Num != 0 {
			v += " with a number"
		}
		all = append(all, fmt.Sprintf("%s@%d/%d=%s", kind, note.Place, note.Label, v))
	}
	return strings.Join(all, " ")
}

type running struct {
	text   string
	fields []int
	notes  string
}

func runAll(t *testing.T, runs []running) {
	t.Helper()
	for _, r := range runs {
		notes, errno := tariff.Run(r.text, r.fields)
		if got := written(notes); errno != api.OK || got != r.notes {
			t.Errorf("Run(%q, %d) = %s, %d, want %s", r.text, r.fields, got, errno, r.notes)
		}
	}
}

// values: the text tells values, and nothing else; they are wanted with blanks between.
type values struct {
	text   string
	fields []int
	wanted string
}

func runValues(t *testing.T, all []values) {
	t.Helper()
	for _, v := range all {
		notes, errno := tariff.Run(v.text, v.fields)
		var got []string
		for _, note := range notes {
			got = append(got, strings.SplitN(written([]api.Note{note}), "=", 2)[1])
		}
		if s := strings.Join(got, " "); errno != api.OK || s != v.wanted {
			t.Errorf("Run(%q, %d) tells %s, %d, want %s", v.text, v.fields, s, errno, v.wanted)
		}
	}
}

// P8: the examples.
func TestRunExamples(t *testing.T) {
	runAll(t, []running{
		{"?p:-;?n:-;>-p*n;", []int{250, 4}, "told@10/0=1000"},
		{"x=7;*3{x=x*x;>-x;}", nil, "told@13/0=49 told@13/0=2401 told@13/0=5764801"},
		{"*2{>-1/0;>-9%-4;}", nil, "told@3/0=!2 told@9/0=1 told@3/0=!2 told@9/0=1"},
		{"(1/0){>-1;}{>-2;}>-3;", nil, "told@17/0=3"},
		{"?a:A;^x:-=a/10;>-x;", []int{123}, "opened@5/0=12 told@15/0=12"},
	})
}

// P8: place and label of a note, where blanks stand ahead and between.
func TestNotes(t *testing.T) {
	runAll(t, []running{
		{"", nil, ""}, {" \n", []int{}, ""}, {"?a:A;", []int{5}, ""}, {"x=1;(x){}*3{}", nil, ""},
		{">-1;", nil, "told@0/0=1"}, {"^x:-=1;", nil, "opened@0/0=1"},
		{" \n > - 1 2 ;", nil, "told@3/0=12"}, {"\n\n^ x : A\nC = 4\n0;  >A B C x;", nil, "opened@2/5=40 told@20/7=40"},
		{"(1){ ^x:D=2; }\n*2{  >D x ; }", nil, "opened@5/8=2 told@20/8=2 told@20/8=2"},
		{">A1;>B2;>C3;>D4;>ABCD5;>-6;", nil, "told@0/1=1 told@4/2=2 told@8/4=3 told@12/8=4 told@16/15=5 told@23/0=6"},
		{"^x:A=1;^x:BD=2;^x:-=3;", nil, "opened@0/1=1 opened@7/10=2 opened@15/0=3"},
		// The label is the rule's, not that of the value or of the name.
		{"?a:A;>ABC a;", []int{7}, "told@5/7=7"}, {"?a:A;!x:ABCD;^x:B=a;", []int{7}, "opened@13/2=7"}, {"?a:ABCD;^x:-=a;", []int{7}, "opened@8/0=7"},
		{">-1;" + strings.Repeat(" ", 392) + ">-2;", nil, "told@0/0=1 told@396/0=2"},
	})
}

// P8: fields by the order of their heads; names.
func TestFieldsAndNames(t *testing.T) {
	runValues(t, []values{
		{"?b:-;?a:-;>-a;>-b;", []int{1, 5}, "5 1"}, {"!x:-;?b:-;!y:-;?a:-;!z:-;>-a;>-b;>-x;>-y;>-z;", []int{1, 5}, "5 1 0 0 0"},
		{"?z:-;>-z;>-a;", []int{least}, "-9223372036854775808 0"}, {"?a:-;>-a;", []int{most}, "9223372036854775807"},
		{"?a:-;a=a+1;>-a;a=7;>-a;", []int{5}, "6 7"}, {"?a:-;?b:-;a=b;b=a;>-a;>-b;", []int{1, 2}, "2 2"}, {"?a:-;^a:-=a*2;>-a;", []int{5}, "10 10"},
		{">-x;x=3;>-x;", nil, "0 3"}, {"!x:A;>A x;", nil, "0"}, {"x=1/0;>-x;x=3;>-x;", nil, "!2 3"}, {"x=x+1;x=x+1;>-x;", nil, "2"}, {"^x:-=2;^x:-=x*x;x=x*x;>-x;", nil, "2 4 16"}, {"x=1;y=x;x=2;>-y;", nil, "1"},
	})
	heads, tells, wanted := "", "", ""
	var fields []int
	for i := range 26 {
		name := letter((i*7 + 3) % 26)
		heads += "?" + name + ":-;"
		tells += ">-" + name + ";"
		fields = append(fields, 100-i*i)
		wanted += fmt.Sprint(" ", 100-i*i)
	}
	runValues(t, []values{{heads + tells, fields, wanted[1:]}})
}

// P8: numbers as they stand, and operations in the order of their ranks.
func TestRanks(t *testing.T) {
	runValues(t, []values{
		{">-0;>-007;>-999999999999999999;>-1 2\n3;", nil, "0 7 999999999999999999 123"},
		{">-2-3-4;>-2-(3-4);>-10-2+3;>-2+3*4;>-(2+3)*4;>-2*3+4;", nil, "-5 3 11 14 20 10"},
		{">-100/7/2;>-100/(7/2);>-100/7*7;>-7*100/7;>-100%7*3;>-3*100%7;>-17%10/2;>-2*(17%10);", nil, "7 33 98 100 6 6 3 14"},
		{">-7-8/3;>-(7-8)/3;>-9-9%4;>-1-2-3<0-3*1;>-4=2+2;>-2+2=4;>-1+(2=2);", nil, "5 0 8 1 1 1 2"},
		{">--3;>---3;>-2*-3;>--2*3;>--(2+3);>-1--1;>--1-1;>-1---1;>--2+3;>--7/2;>--7%4;", nil, "-3 3 -6 -6 -5 2 -2 0 1 -3 -3"},
		{">-1<2;>-2<1;>-2<2;>--1<1;>-1=1;>-1=2;>-(1<2)=1;>-1<(2=3);>-(3<2)<(2<3);>-(1=2)=(2=1);", nil, "1 0 0 1 1 0 1 0 1 1"},
		{"x=8;y=3;>-x-y-y;>-x/y/y;>-x%y%y;>-x*y-y*x;>-((x-(y)));", nil, "2 0 2 0 5"},
	})
}

const everyOperation = "?a:-;?b:-;>-a+b;>-a-b;>-a*b;>-a/b;>-a%b;>-a<b;>-a=b;>--a;"

// P8: each operation at the edges of 64 bits and at 0, 1 and -1, and the signs
// of quotient and remainder. (TestEveryPair tries many more pairs.)
func TestOperations(t *testing.T) {
	const top, bottom = "9223372036854775807", "-9223372036854775808"
	runValues(t, []values{
		{everyOperation, []int{7, 2}, "9 5 14 3 1 0 0 -7"}, {everyOperation, []int{-7, 2}, "-5 -9 -14 -3 -1 1 0 7"}, {everyOperation, []int{7, -2}, "5 9 -14 -3 1 0 0 -7"}, {everyOperation, []int{-7, -2}, "-9 -5 14 3 -1 1 0 7"},
		{everyOperation, []int{2, 7}, "9 -5 14 0 2 1 0 -2"}, {everyOperation, []int{-2, 7}, "5 -9 -14 0 -2 1 0 2"}, {everyOperation, []int{6, -3}, "3 9 -18 -2 0 0 0 -6"},
		{everyOperation, []int{0, 0}, "0 0 0 !2 !2 0 1 0"}, {everyOperation, []int{5, 0}, "5 5 0 !2 !2 0 0 -5"}, {everyOperation, []int{0, 5}, "5 -5 0 0 0 1 0 0"}, {everyOperation, []int{0, -1}, "-1 1 0 0 0 0 0 0"},
		{everyOperation, []int{most, 0}, top + " " + top + " 0 !2 !2 0 0 -9223372036854775807"}, {everyOperation, []int{least, 0}, bottom + " " + bottom + " 0 !2 !2 1 0 !1"},
		{everyOperation, []int{0, most}, top + " -9223372036854775807 0 0 0 1 0 0"}, {everyOperation, []int{0, least}, bottom + " !1 0 0 0 0 0 0"},
		{everyOperation, []int{most, 1}, "!1 9223372036854775806 " + top + " " + top + " 0 0 0 -9223372036854775807"}, {everyOperation, []int{1, most}, "!1 -9223372036854775806 " + top + " 0 1 1 0 -1"},
		{everyOperation, []int{most, -1}, "9223372036854775806 !1 -9223372036854775807 -9223372036854775807 0 0 0 -9223372036854775807"}, {everyOperation, []int{-1, most}, "9223372036854775806 " + bottom + " -9223372036854775807 0 -1 1 0 1"},
		{everyOperation, []int{least, 1}, "-9223372036854775807 !1 " + bottom + " " + bottom + " 0 1 0 !1"}, {everyOperation, []int{1, least}, "-9223372036854775807 !1 " + bottom + " 0 1 0 0 -1"},
		{everyOperation, []int{least, -1}, "!1 -9223372036854775807 !1 !1 0 1 0 !1"}, {everyOperation, []int{-1, least}, "!1 " + top + " !1 0 -1 0 0 1"},
		{everyOperation, []int{most, most}, "!1 0 !1 1 0 0 1 -9223372036854775807"}, {everyOperation, []int{least, least}, "!1 0 !1 1 0 0 1 !1"}, {everyOperation, []int{most, least}, "-1 !1 !1 0 " + top + " 0 0 -9223372036854775807"}, {everyOperation, []int{least, most}, "-1 !1 !1 -1 -1 1 0 !1"},
		{everyOperation, []int{3037000500, 3037000500}, "6074001000 0 !1 1 0 0 1 -3037000500"}, {everyOperation, []int{3037000499, 3037000499}, "6074000998 0 9223372030926249001 1 0 0 1 -3037000499"},
		{everyOperation, []int{1 << 32, -1 << 31}, "2147483648 6442450944 " + bottom + " -2 0 0 0 -4294967296"}, {everyOperation, []int{-1 << 31, 1 << 32}, "2147483648 -6442450944 " + bottom + " 0 -2147483648 1 0 2147483648"}, {everyOperation, []int{1 << 32, 1 << 31}, "6442450944 2147483648 !1 2 0 0 0 -4294967296"},
		// What is exact in the end does not mend what was not on the way.
		{"?a:-;>-a+1-1;>-a-1+1;>-a*2/2;>--(-a-1);>-0*(a+1);", []int{most}, "!1 " + top + " !1 !1 !1"},
	})
}

// P8: faults on either side, in every operation.
func TestFaults(t *testing.T) {
	for _, op := range []string{"+", "-", "*", "/", "%", "<", "="} {
		text := strings.ReplaceAll("?m:-;o=m+1;z=1/0;>-o@z;>-z@o;>-o@o;>-z@z;>-o@3;>-3@o;>-z@3;>-3@z;>-o@0;>-0@o;>-z@0;>-0@z;>-0@(1/0);>-(m+1)@(1/0);>-(1/0)@(m+1);", "@", op)
		runValues(t, []values{{text, []int{most}, "!1 !2 !1 !2 !1 !1 !2 !2 !1 !1 !2 !2 !2 !1 !2"}})
	}
	runValues(t, []values{
		{"?m:-;o=m+1;z=1/0;>--o;>--z;>---o;>-1+o+z;>-1+z+o;>-z*0;>-o-o;>-z=z;>-(o=z)+z;", []int{most}, "!1 !2 !1 !1 !2 !2 !1 !2 !1"},
		{">-1/0/0;>-5%0;>-0/0;>-0%0;>-1/(1-1);>-1/(0%1);x=1/0;y=x;>-y;^z:-=y;>-z;", nil, "!2 !2 !2 !2 !2 !2 !2 !2 !2"},
		{"x=999999999999999999*9;>-x;>-x+x;>--x-x;", nil, "8999999999999999991 !1 !1"},
	})
}

// P8: which block is worked out.
func TestConditions(t *testing.T) {
	const one, two = "?c:-;(c){>-1;}>-9;", "?c:-;(c){>-1;}{>-2;}>-9;"
	for _, num := range []int{1, -1, 2, 256, 1 << 32, -1 << 32, most, least} {
		runValues(t, []values{{one, []int{num}, "1 9"}, {two, []int{num}, "1 9"}})
	}
	runValues(t, []values{
		{one, []int{0}, "9"}, {two, []int{0}, "2 9"},
		{"(1/0){>-1;}>-9;", nil, "9"}, {"(1/0){>-1;}{>-2;}>-9;", nil, "9"}, {"?c:-;(c+1){>-1;}>-9;", []int{most}, "9"}, {"?c:-;(c+1){>-1;}{>-2;}>-9;", []int{most}, "9"}, {"x=1/0;(x){>-1;}{>-2;}(-x){>-3;}{>-4;}(x=x){>-5;}{>-6;}>-9;", nil, "9"},
		{"(1<2){>-1;}{>-2;}(2<1){>-3;}{>-4;}(1=1){>-5;}{>-6;}(1=2){>-7;}{>-8;}", nil, "1 4 5 8"}, {"(--1){>-1;}(-0){>-2;}(1-1){>-3;}{>-4;}", nil, "1 4"},
		// The condition is worked out once, ahead of its blocks.
		{"x=1;(x){x=0;>-x;}{>-8;}>-x;", nil, "0 0"}, {"(x){>-8;}{x=1;>-x;}>-x;", nil, "1 1"}, {"x=1;(x){x=1/0;>-5;}{>-8;}>-x;", nil, "5 !2"},
		{"(1){}{>-8;}(0){>-8;}{}>-9;", nil, "9"}, {"(1){(0){>-1;}{>-2;}}{(0){>-3;}{>-4;}}", nil, "2"}, {"(0){(1){>-1;}{>-2;}}{(1){>-3;}{>-4;}}", nil, "3"}, {"(1){(1/0){>-1;}{>-2;}>-3;}{>-4;}", nil, "3"},
		{"(1){>-1;>-2;}{>-3;}(0){>-4;}{>-5;>-6;}", nil, "1 2 5 6"}, {nest("(1){", ">-7;", "}", 8), nil, "7"}, {nest("(0){}{", ">-7;", "}", 8), nil, "7"},
	})
}

// P8: a block n times, one within another.
func TestTimes(t *testing.T) {
	for n := 1; n <= 9; n++ {
		wanted := strings.Repeat(" 3", n)[1:]
		runValues(t, []values{{fmt.Sprintf("*%d{>-3;}", n), nil, wanted}, {fmt.Sprintf("*%d{x=x+1;}>-x;", n), nil, fmt.Sprint(n)}, {fmt.Sprintf("*%d{*9{x=x+1;}y=y+1;}>-x;>-y;", n), nil, fmt.Sprint(9*n, " ", n)}})
	}
	runValues(t, []values{
		{"*3{*2{x=x+1;}y=y+x;}>-y;", nil, "12"}, {"*2{*3{>-1;}>-2;}", nil, "1 1 1 2 1 1 1 2"}, {"*9{*9{*9{x=x+1;}}}>-x;", nil, "729"}, {nest("*2{", "x=x+1;", "}", 8) + ">-x;", nil, "256"},
		{"x=3;*9{(x){x=x-1;>-x;}}", nil, "2 1 0"}, {"x=3;*5{(x){x=x-1;}{>-8;}}", nil, "8 8"}, {"x=1;*9{*9{x=x*2;}}>-x;", nil, "!1"}, {"x=-1;*9{*7{x=x*2;}}>-x;x=x*2;>-x;", nil, "-9223372036854775808 !1"},
		{"x=1;*4{y=x+y;x=y-x;>-y;}", nil, "1 1 2 3"}, {"x=2;*4{>-6/x;x=x-1;}", nil, "3 6 !2 -6"}, {"*2{}*2{*2{}}>-1;", nil, "1"},
	})
	// As many notes as the work allows.
	notes, errno := tariff.Run("*9{*9{*9{>-x;>-x;}}}x=x+1;>-x;", nil)
	if errno != api.OK || len(notes) != 2*729+1 || written(notes[1457:]) != "told@13/0=0 told@26/0=1" {
		t.Errorf("%d notes, %d, at last %s", len(notes), errno, written(notes[max(0, len(notes)-2):]))
	}
}

// P8, P1: the error of Check ahead of ErrInput; with an error no notes.
func TestRunRefused(t *testing.T) {
	const large = "*9{*9{*9{*9{x=1;}}}}"
	for _, c := range []struct {
		text   string
		fields int
		errno  api.Errno
	}{
		{strings.Repeat(" ", 401), 0, api.ErrLong}, {strings.Repeat(" ", 401), 3, api.ErrLong}, {"?a:-;" + strings.Repeat(" ", 396), 0, api.ErrLong},
		{">-1;x", 0, api.ErrSyntax}, {"?a:-;>-1;x", 0, api.ErrSyntax}, {"?a:-;>-1;x", 1, api.ErrSyntax}, {"x", 5, api.ErrSyntax},
		{"?a:-;?a:-;>-1;", 0, api.ErrName}, {"?a:-;?a:-;>-1;", 1, api.ErrName}, {"?a:-;?a:-;>-1;", 2, api.ErrName},
		{"?a:-;>-1;" + large, 1, api.ErrLarge}, {"?a:-;>-1;" + large, 0, api.ErrLarge}, {"?a:-;>-1;" + large, 2, api.ErrLarge},
		{"?a:A;>-1;>-a;", 1, api.ErrFlow}, {"?a:A;>-1;>-a;", 0, api.ErrFlow}, {"?a:A;>-1;>-a;", 2, api.ErrFlow},
		{"?a:A;>-1;", 0, api.ErrInput}, {"?a:A;>-1;", 2, api.ErrInput}, {"?a:A;?b:-;>-1;", 1, api.ErrInput}, {"?a:A;?b:-;>-1;", 3, api.ErrInput}, {"", 1, api.ErrInput}, {">-1;", 1, api.ErrInput}, {"!a:A;>-1;", 1, api.ErrInput}, {"!a:A;?b:-;>-1;", 2, api.ErrInput}, {"!a:A;?b:-;>-1;", 0, api.ErrInput}, {"", 27, api.ErrInput}, {"?a:-;", 1 << 16, api.ErrInput},
	} {
		notes, errno := tariff.Run(c.text, make([]int, c.fields))
		if notes != nil || errno != c.errno {
			t.Errorf("Run(%.50q, %d fields) = %v, %d, want %d", c.text, c.fields, notes, errno, c.errno)
		}
	}
}

// P2: the fields and their spare room stay as they were.
func TestRunLeavesFields(t *testing.T) {
	room := []int{1, 2, 3, 4, 5}
	for _, text := range []string{"?a:-;?b:-;a=7;b=8;^a:-=9;>-a;>-b;*9{a=a+1;>-a;}", "?a:A;?b:B;>-b;", "?a:-;b=5;a=b;>-a;", "?a:-;?b:-;?c:-;c=9;b=8;>-c;"} {
		tariff.Run(text, room[1:3])
		if !reflect.DeepEqual(room, []int{1, 2, 3, 4, 5}) {
			t.Fatalf("Run(%q) made %v of the fields", text, room)
		}
	}
}

// P2: notes that came out are the caller's.
func TestRunNotesAreTheCallers(t *testing.T) {
	for _, text := range []string{"?a:-;>-a;", "?a:-;>-a;^a:-=7;>-a;", "?a:-;*9{>-a;a=a+1;}", "?a:-;a=7;"} {
		first, _ := tariff.Run(text, []int{5})
		second, _ := tariff.Run(text, []int{5})
		wanted := written(second)
		scribble(first, nil, nil)
		if got := written(second); got != wanted {
			t.Errorf("Run(%q): other notes became %s, were %s", text, got, wanted)
		}
		third, _ := tariff.Run(text, []int{5})
		if got := written(third); got != wanted {
			t.Errorf("Run(%q): later notes are %s, were %s", text, got, wanted)
		}
		tariff.Run("?a:-;^x:-=8;*9{>-a;}", []int{6})
		if got := written(third); got != wanted {
			t.Errorf("Run(%q): its notes became %s, were %s", text, got, wanted)
		}
	}
}
