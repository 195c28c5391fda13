package tariff_test

import (
	"fmt"
	"math/rand"
	"reflect"
	"strings"
	"testing"

	"tariff/api"
	"tariff/tariff"
)

// compiled answers the program of a text, for which Valid answers OK.
func compiled(t *testing.T, text string) []api.Ins {
	t.Helper()
	code, errno := tariff.Compile(text)
	if errno != api.OK {
		t.Fatalf("Compile(%q) = %v, %d", text, code, errno)
	}
	if errno, place := tariff.Valid(code); errno != api.OK || place != 0 {
		t.Fatalf("Compile(%q) = %v: Valid %d, %d", text, code, errno, place)
	}
	return code
}

// wantSame compares what the program of a text tells with what Run tells.
func wantSame(t *testing.T, text string, fields []int) {
	t.Helper()
	code := compiled(t, text)
	notes, errno := tariff.Exec(code, fields)
	wanted, runErrno := tariff.Run(text, fields)
	if got, wanted := written(notes), written(wanted); errno != api.OK || runErrno != api.OK || got != wanted {
		t.Errorf("Exec of %q, %d = %s, %d; Run = %s, %d", text, fields, got, errno, wanted, runErrno)
	}
}

// P11: what the program of a text tells, by the document's examples and beside them.
func TestCompiledTexts(t *testing.T) {
	for _, c := range []running{
		{"", nil, ""}, {" \n", nil, ""}, {"?a:A;", []int{5}, ""}, {"!a:A;", nil, ""},
		{"?p:-;?n:-;>-p*n;", []int{250, 4}, "told@10/0=1000"},
		{"x=7;*3{x=x*x;>-x;}", nil, "told@13/0=49 told@13/0=2401 told@13/0=5764801"},
		{"*2{>-1/0;>-9%-4;}", nil, "told@3/0=!2 told@9/0=1 told@3/0=!2 told@9/0=1"},
		{"(1/0){>-1;}{>-2;}>-3;", nil, "told@17/0=3"}, {"(1/0){>-1;}>-3;", nil, "told@11/0=3"}, {"(1){>-1;}{>-2;}>-3;", nil, "told@4/0=1 told@15/0=3"}, {"(0){>-1;}{>-2;}>-3;", nil, "told@10/0=2 told@15/0=3"}, {"(0){>-1;}>-3;", nil, "told@9/0=3"},
		{"?a:A;^x:-=a/10;>-x;", []int{123}, "opened@5/0=12 told@15/0=12"},
		{"?b:-;?a:-;>-a;>-b;", []int{1, 5}, "told@10/0=5 told@14/0=1"}, {"!x:-;?b:-;!y:-;?a:-;>-a;>-b;>-x;", []int{1, 5}, "told@20/0=5 told@24/0=1 told@28/0=0"},
		{">-x;>-z;", nil, "told@0/0=0 told@4/0=0"}, {">-999999999999999999;", nil, "told@0/0=999999999999999999"}, {"?a:-;>-a;", []int{least}, "told@5/0=-9223372036854775808"},
		{"\n ^ x : A C = 4 0 ; >ABCD x;", nil, "opened@2/5=40 told@20/15=40"}, {">-1;" + strings.Repeat(" ", 392) + ">-2;", nil, "told@0/0=1 told@396/0=2"},
		{">-2-3-4;>-2-(3-4);>-2+3*4;>---3;>-1<2;>-4=2+2;", nil, "told@0/0=-5 told@8/0=3 told@18/0=14 told@26/0=3 told@32/0=1 told@38/0=1"},
		{"*3{*2{x=x+1;}y=y+x;}>-y;>-x;", nil, "told@20/0=12 told@24/0=6"}, {"*2{*3{x=x+1;}*2{y=y+1;}}>-x;>-y;", nil, "told@24/0=6 told@28/0=4"}, {"*1{>-1;}", nil, "told@3/0=1"},
		{"x=1;(x){x=0;>-5;}{>-8;}>-x;", nil, "told@12/0=5 told@23/0=0"}, {"x=3;*5{(x){x=x-1;}{>-8;}}", nil, "told@19/0=8 told@19/0=8"}, {"*3{(1/0){>-1;}{>-2;}(0){}{>-3;}}", nil, "told@26/0=3 told@26/0=3 told@26/0=3"},
	} {
		notes, errno := tariff.Exec(compiled(t, c.text), c.fields)
		if got := written(notes); errno != api.OK || got != c.notes {
			t.Errorf("Exec of %q, %d = %s, %d, want %s", c.text, c.fields, got, errno, c.notes)
		}
	}
}

// P11: rules of every make, with several fields each, against Run and against a
// second way to work them out.
func TestCompiledRules(t *testing.T) {
	source := rand.New(rand.NewSource(10))
	for range 6000 {
		text, fields, wanted := cleanRules(source)
		code := compiled(t, text)
		notes, errno := tariff.Exec(code, fields)
		if got, wanted := written(notes), written(wanted); errno != api.OK || got != wanted {
			t.Fatalf("Exec of %q, %d = %s, %d, want %s", text, fields, got, errno, wanted)
		}
		for range 3 {
			for i := range fields {
				fields[i] = []int{0, 1, -1, 2, 3, -10, most, least, source.Int()}[source.Intn(9)]
			}
			wantSame(t, text, fields)
		}
	}
}

// P11: each operation, with numbers at the edges of 64 bits, and faults.
func TestCompiledOperations(t *testing.T) {
	numbers := []int{0, 1, -1, 2, -7, most, most - 1, least, least + 1, 1 << 32, -1 << 31, 3037000500}
	for _, a := range numbers {
		for _, b := range numbers {
			wantSame(t, everyOperation, []int{a, b})
			wantSame(t, "?a:-;?b:-;(a+b){>-1;}{>-2;}(a*b){>-3;}(a/b){>-4;}{>-5;}(-a){>-6;}{>-7;}(a<b){>-8;}{>-9;}", []int{a, b})
		}
	}
	for _, op := range []string{"+", "-", "*", "/", "%", "<", "="} {
		wantSame(t, strings.ReplaceAll("?m:-;o=m+1;z=1/0;>-o@z;>-z@o;>-o@o;>-z@z;>-o@3;>-3@o;>-z@3;>-3@z;>--o;>--z;", "@", op), []int{most})
	}
}

// P11: expressions in which as many values as possible wait for their operation.
func TestCompiledDepth(t *testing.T) {
	for depth := 0; depth <= 8; depth++ {
		for _, piece := range []string{"1<1+2*", "9=x-3%", "x<y+z*", "y+-", "x--", "2*", "x=", "-"} {
			wantSame(t, "x=5;y=7;z=-3;>-"+nest(piece+"(", piece+"y", ")", depth)+";>-x;>-y;>-z;", nil)
		}
		for _, piece := range []string{"-3+2*2=3", "%7-x<4", "<1", "+x"} {
			wantSame(t, "x=5;y=7;z=-3;>-"+nest("(", "y"+piece, ")"+piece, depth)+";>-x;>-y;>-z;", nil)
		}
	}
	// At the depth of blocks, and of conditions.
	wantSame(t, "y=7;"+nest("*1{", ">-1<1+2*(1<1+2*(1<1+2*(y)));", "}", 5), nil)
	wantSame(t, "y=7;("+nest("1<1+2*(", "y", ")", 7)+"){>-1;}{>-2;}>-y;", nil)
	wantSame(t, "x=2;*3{^x:-="+nest("1-3*(", "x", ")", 7)+";>-x;}", nil)
}

// P11: loops in loops and in conditions, and conditions in loops.
func TestCompiledLoops(t *testing.T) {
	for depth := 1; depth <= 8; depth++ {
		for n := 1; n <= 2; n++ {
			wantSame(t, nest(fmt.Sprintf("*%d{", n), "x=x+1;>-x;", "}", depth)+">-x;", nil)
		}
		wantSame(t, nest("*1{y=y+1;", "x=x+1;", "z=z+y;}", depth)+">-x;>-y;>-z;", nil)
		wantSame(t, nest("*2{y=y+1;", "x=x+1;", "}", depth)+">-x;>-y;", nil)
		wantSame(t, nest("(1){", ">-7;", "}{>-8;}>-9;", depth), nil)
		wantSame(t, nest("(0){>-8;}{", ">-7;", "}>-9;", depth), nil)
		wantSame(t, nest("(1/0){>-8;}{", ">-7;", "}>-9;", depth), nil)
	}
	for n := 1; n <= 9; n++ {
		for m := 1; m <= 9; m++ {
			wantSame(t, fmt.Sprintf("*%d{x=x+1;*%d{y=y+x;(y%%3){z=z+1;}{*%d{z=z-1;>-z;}}}>-y;}>-x;>-z;", n, m, 1+n/3), nil)
			wantSame(t, fmt.Sprintf("*%d{*%d{x=x+1;}*%d{y=y+1;}}*%d{z=z+1;}>-x;>-y;>-z;", n, m, n, m), nil)
		}
	}
}

// P11: as much work as there may be, as long a text, as many names: within the
// bounds of instructions, registers and steps.
func TestCompiledBounds(t *testing.T) {
	names, tells := "", ""
	var fields []int
	for i := range 26 {
		name := letter((i*7 + 3) % 26)
		names += "?" + name + ":-;"
		tells += ">-" + name + ";"
		fields = append(fields, 100-i*i)
	}
	wantSame(t, names+tells, fields)
	wantSame(t, names+"*3{*2{x=x+a*(b-z);}>-x<1+2*(z<1+2*(z));}"+tells[:40], fields)
	for _, piece := range []string{"x=1;", "*9{}", "*1{}", "(1){}", "(x){}{}", "(0){}{}", ">-1;", "^x:-=x;", "x=x+1;", "*9{x=1;}", "*9{*9{}}", "(x){x=x-1;}{x=9;>-x;}", "x=---1;", " "} {
		wantSame(t, strings.Repeat(piece, api.MaxText/len(piece)), nil)
	}
	wantSame(t, ">-"+strings.Repeat("-", 396)+"1;", nil)
	wantSame(t, ">-"+strings.Repeat("1+", 198)+"1;", nil)
	for _, text := range []string{"*9{*9{*8{*5{}}}}>-1;", nest("*2{", "", "}", 8), "*9{*9{*9{(0){}}}}", "*9{*9{*9{x=x+1;}}}>-x;", "*9{*9{*9{>-x;>-x;}}}>-x;", "*9{*9{*9{^x:-=1;}}}>-x;"} {
		wantSame(t, text, nil)
	}
	w := writer{rand.New(rand.NewSource(11))}
	for tried := 0; tried < 1000; {
		base := w.rule(0)
		if len(base.text) > 150 || base.work > api.MaxWork-10 {
			continue
		}
		text := fill(base, api.MaxWork)
		if errno, _ := tariff.Check(text); errno != api.OK {
			t.Fatalf("Check(%q) = %d", text, errno)
		}
		wantSame(t, text, nil)
		tried++
	}
}

// P11, P1: the error of Check, and no program.
func TestCompileRefused(t *testing.T) {
	for _, c := range []struct {
		text  string
		errno api.Errno
	}{
		{strings.Repeat(" ", 401), api.ErrLong}, {">-1;" + strings.Repeat(" ", 397), api.ErrLong}, {"x", api.ErrSyntax}, {">-1;x", api.ErrSyntax}, {"?a:-;?a:-;>-1;", api.ErrName}, {"*9{*9{*9{*9{x=1;}}}}", api.ErrLarge}, {">-1;*9{*9{*9{*9{}}}}", api.ErrLarge}, {"?a:A;>-a;", api.ErrFlow}, {"?a:A;>-1;(a){>-1;}", api.ErrFlow},
		{"?a:-;?a:-;x", api.ErrSyntax}, {"?a:A;?a:A;>-a;*9{*9{*9{*9{}}}}", api.ErrName}, {"?a:A;>-a;*9{*9{*9{*9{}}}}", api.ErrLarge},
	} {
		if code, errno := tariff.Compile(c.text); code != nil || errno != c.errno {
			t.Errorf("Compile(%.50q) = %v, %d, want %d", c.text, code, errno, c.errno)
		}
	}
}

// P2: instructions that came out are the caller's.
func TestCompiledIsTheCallers(t *testing.T) {
	for _, text := range []string{"", "?a:-;>-a;", "?a:-;*9{>-a;a=a+1;}(a){>-1;}{^a:-=7;}", "?a:-;>-1<1+2*(3);"} {
		first, _ := tariff.Compile(text)
		second, _ := tariff.Compile(text)
		held := append([]api.Ins{}, second...)
		scribble(nil, first, nil)
		tariff.Compile("?b:-;(b){>-b;}*7{b=7;}")
		third, _ := tariff.Compile(text)
		if !reflect.DeepEqual(second, held) || !reflect.DeepEqual(third, held) {
			t.Errorf("Compile(%q) became %v, %v, was %v", text, second, third, held)
		}
	}
}
