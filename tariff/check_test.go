package tariff_test

import (
	"strings"
	"testing"

	"tariff/api"
	"tariff/tariff"
)

type want struct {
	text  string
	errno api.Errno
	place int
}

// checkAll looks at what Check answers; and at Labels, which must tell the same
// error, and nothing else.
func checkAll(t *testing.T, wants []want) {
	t.Helper()
	for _, w := range wants {
		errno, place := tariff.Check(w.text)
		if errno != w.errno || place != w.place {
			t.Errorf("Check(%.90q) = %d, %d, want %d, %d", w.text, errno, place, w.errno, w.place)
		}
		labels, errno := tariff.Labels(w.text)
		if errno != w.errno || errno != api.OK && labels != [api.Names]int{} {
			t.Errorf("Labels(%.90q) = %v, %d, want the error %d", w.text, labels, errno, w.errno)
		}
	}
}

func nest(open, inner, close string, times int) string {
	return strings.Repeat(open, times) + inner + strings.Repeat(close, times)
}

// P1: of several errors the one named first is answered, and a place only
// where one is named.
func TestErrorsInOrder(t *testing.T) {
	const large = "*9{*9{*9{*9{x=1;}}}}"
	const leak = ">-b;"
	long := strings.Repeat(" ", 400)
	checkAll(t, []want{
		{"?b:A;?b:A;" + leak + large + "}" + long, api.ErrLong, 0},
		{"?b:A;?b:A;" + leak + large + "}", api.ErrSyntax, 34},
		{"?b:A;?b:A;" + leak + "x=", api.ErrSyntax, 16},
		{"?b:A;?b:A;" + leak + large, api.ErrName, 6},
		{"?b:A;!b:-;" + leak, api.ErrName, 6},
		{"?b:A;" + leak + large, api.ErrLarge, 0},
		{"?b:A;" + large + leak, api.ErrLarge, 0},
		{"?b:A;" + leak + "*9{*9{*9{x=1;}}}", api.ErrFlow, 5},
		{"?a:-;?a:-;" + large + "}" + long, api.ErrLong, 0},
		{"?a:-;?a:-;" + large + "}", api.ErrSyntax, 30},
		{"?a:-;?a:-;" + large + "x=", api.ErrSyntax, 32},
		{"?a:-;?a:-;" + large, api.ErrName, 6},
		{"?a:-;" + large, api.ErrLarge, 0},
		{"?a:-;?b:-;x=a;", api.OK, 0},
	})
}

// P3: the bound of 400 bytes, whatever stands there.
func TestLong(t *testing.T) {
	checkAll(t, []want{
		{strings.Repeat(" ", 400), api.OK, 0},
		{strings.Repeat(" ", 401), api.ErrLong, 0},
		{strings.Repeat("x=1;", 100), api.OK, 0},
		{strings.Repeat("x=1;", 100) + "\n", api.ErrLong, 0},
		{strings.Repeat("\x00", 400), api.ErrSyntax, 0},
		{strings.Repeat("\x00", 401), api.ErrLong, 0},
		{strings.Repeat("x=1;", 99) + "x=1 ", api.ErrSyntax, 400},
		{"x=" + strings.Repeat("-", 396) + "1;", api.OK, 0},
		{"x=" + strings.Repeat("-", 397) + "1;", api.ErrLong, 0},
		{"x=" + strings.Repeat("-", 398), api.ErrSyntax, 400},
		{strings.Repeat("(", 1<<20), api.ErrLong, 0},
	})
}

// P3: blanks and line ends may stand everywhere, and no other bytes between.
func TestBlanks(t *testing.T) {
	const rules = "?a:AB;!b:-;^b:-=a;>BD 12<(345);(a=1){>ABD-6;}{*2{c=7%8;}}"
	var spread strings.Builder
	for i := 0; i < len(rules); i++ {
		spread.WriteString(" \n" + rules[i:i+1] + "\n")
		for _, other := range []string{"\t", "\r", "\v", "\x00", "\xc2\xa0", "\x1f"} {
			checkAll(t, []want{{rules[:i] + other + rules[i:], api.ErrSyntax, i}})
		}
	}
	checkAll(t, []want{{rules, api.OK, 0}, {spread.String(), api.OK, 0}})
	checkAll(t, []want{{"", api.OK, 0}, {"\n", api.OK, 0}, {" \n \n", api.OK, 0}, {" \n x", api.ErrSyntax, 4}, {" \n;", api.ErrSyntax, 2}, {"x=1; \n )", api.ErrSyntax, 7}})
}

// P3: a text that ends too early, wherever that is, and one that does not.
func TestEndsTooEarly(t *testing.T) {
	const rules = "?a:-;!b:AB;^b:A=1+2;>ABD(1)<-a;(a){>-6;}{*2{c=7%8;}}x=1;"
	whole := []int{0, 5, 11, 20, 31, 40, 52, 56}
	for length := 0; length <= len(rules); length++ {
		text := rules[:length]
		if len(whole) > 0 && whole[0] == length {
			whole = whole[1:]
			checkAll(t, []want{{text, api.OK, 0}, {text + " \n", api.OK, 0}})
			continue
		}
		checkAll(t, []want{{text, api.ErrSyntax, length}, {text + " \n", api.ErrSyntax, length + 2}})
	}
}

// P3: the order of secrets in a label.
func TestSecrets(t *testing.T) {
	const secrets = "ABCD"
	for i := range secrets {
		for j := range secrets {
			pair := secrets[i:i+1] + secrets[j:j+1]
			if i < j {
				checkAll(t, []want{{">" + pair + "1;", api.OK, 0}, {"?a:" + pair + ";", api.OK, 0}, {"!a:" + pair + ";", api.OK, 0}, {"^a:" + pair + "=1;", api.OK, 0}})
			} else {
				checkAll(t, []want{{">" + pair + "1;", api.ErrSyntax, 2}, {"?a:" + pair + ";", api.ErrSyntax, 4}, {"!a:" + pair + ";", api.ErrSyntax, 4}, {"^a:" + pair + "=1;", api.ErrSyntax, 4}})
			}
		}
	}
	checkAll(t, []want{
		{">ABCD1;", api.OK, 0}, {">A B\nC D 1;", api.OK, 0}, {">ABCDD1;", api.ErrSyntax, 5}, {">ABDC1;", api.ErrSyntax, 4}, {">A B A1;", api.ErrSyntax, 5},
		{">E1;", api.ErrSyntax, 1}, {">AE1;", api.ErrSyntax, 2}, {">@1;", api.ErrSyntax, 1}, {">a1;", api.ErrSyntax, 1}, {">;", api.ErrSyntax, 1},
		{">-A1;", api.ErrSyntax, 2}, {"?a:A-;", api.ErrSyntax, 4}, {"?a:--;", api.ErrSyntax, 4}, {">A-1;", api.OK, 0}, {">---1;", api.OK, 0},
	})
}

// P3: the 18 digits.
func TestDigits(t *testing.T) {
	for digits := 1; digits <= 18; digits++ {
		for _, digit := range []string{"0", "9"} {
			number := strings.Repeat(digit, digits)
			checkAll(t, []want{{"x=" + number + ";", api.OK, 0}, {"x=" + number, api.ErrSyntax, 2 + digits}})
		}
	}
	full := strings.Repeat("1", 18)
	checkAll(t, []want{
		{"x=" + full + "1;", api.ErrSyntax, 20}, {"x=" + full + "11;", api.ErrSyntax, 20}, {"x=" + strings.Repeat("0", 19) + ";", api.ErrSyntax, 20},
		{"x=" + full[:9] + " " + full[9:] + ";", api.OK, 0}, {"x=" + full[:9] + " \n" + full[9:] + "\n1;", api.ErrSyntax, 23},
		{"x=" + full + "+" + full + ";", api.OK, 0}, {"x=" + full + "*" + full + "1;", api.ErrSyntax, 39}, {"x=-" + full + "1;", api.ErrSyntax, 21},
		{"(" + full + "){}", api.OK, 0}, {"(" + full + "1){}", api.ErrSyntax, 19}, {">-" + full + "1;", api.ErrSyntax, 20},
	})
}

// P3: the eight pairs.
func TestPairs(t *testing.T) {
	loops7, loops8 := strings.Repeat("*1{", 7), strings.Repeat("*1{", 8)
	ends7, ends8 := strings.Repeat("}", 7), strings.Repeat("}", 8)
	checkAll(t, []want{
		{"x=" + nest("(", "1", ")", 8) + ";", api.OK, 0}, {"x=" + nest("(", "1", ")", 9) + ";", api.ErrSyntax, 10}, {"x=" + strings.Repeat("(", 9), api.ErrSyntax, 10},
		{"x=" + nest("-(", "1", ")", 8) + ";", api.OK, 0}, {"x=" + nest("-(", "1", ")", 9) + ";", api.ErrSyntax, 19},
		{"x=" + nest("(", "(1)+(2)", ")", 7) + "*(3);", api.OK, 0}, {"x=" + strings.Repeat("(1)+", 20) + "1;", api.OK, 0},
		{nest("*1{", "", "}", 8), api.OK, 0}, {nest("*1{", "", "}", 9), api.ErrSyntax, 24}, {loops8 + "*", api.ErrSyntax, 24},
		{nest("(1){", "", "}", 8), api.OK, 0}, {nest("(1){", "", "}", 9), api.ErrSyntax, 32},
		{loops7 + "(1){}{}" + ends7, api.OK, 0}, {loops7 + "((1)){}" + ends7, api.ErrSyntax, 22}, {loops7 + "(1){*1{}}" + ends7, api.ErrSyntax, 25}, {loops7 + "(1){}{(1){}}" + ends7, api.ErrSyntax, 27},
		{loops7 + "x=(1);>-(1);^y:-=(1);" + ends7, api.OK, 0}, {loops7 + "x=((1));" + ends7, api.ErrSyntax, 24},
		{loops8 + "x=1;>-1;^y:-=1;" + ends8, api.OK, 0}, {loops8 + "x=(1);" + ends8, api.ErrSyntax, 26}, {loops8 + "(1){}" + ends8, api.ErrSyntax, 24}, {loops8 + ">-(1);" + ends8, api.ErrSyntax, 26},
		{loops7 + "*1{}*1{}(1){}" + ends7, api.OK, 0}, {nest("(((1))){", "", "}", 5) + nest("*1{", "", "}", 8), api.OK, 0},
	})
}

// P3: other bytes that cannot stand where they are.
func TestWrongBytes(t *testing.T) {
	checkAll(t, []want{
		{"x=;", api.ErrSyntax, 2}, {">BA 1;", api.ErrSyntax, 2}, {"X=1;", api.ErrSyntax, 0}, {"xy=1;", api.ErrSyntax, 1}, {"x:=1;", api.ErrSyntax, 1}, {"`=1;", api.ErrSyntax, 0}, {"{=1;", api.ErrSyntax, 0},
		{"x=1<2<3;", api.ErrSyntax, 5}, {"x=1=2=3;", api.ErrSyntax, 5}, {"x=(1<2)<3;", api.OK, 0}, {"x=1<(2<3);", api.OK, 0}, {"x=1>2;", api.ErrSyntax, 3}, {"x=1<-2;", api.OK, 0}, {"x=1<=2;", api.ErrSyntax, 4},
		{"x=+1;", api.ErrSyntax, 2}, {"x=1+*2;", api.ErrSyntax, 4}, {"x=1-+2;", api.ErrSyntax, 4}, {"x=1a;", api.ErrSyntax, 3}, {"x=a1;", api.ErrSyntax, 3}, {"x=a(1);", api.ErrSyntax, 3}, {"x=(1)(2);", api.ErrSyntax, 5}, {"x=-;", api.ErrSyntax, 3}, {"x=(1;", api.ErrSyntax, 4}, {"x=(1};", api.ErrSyntax, 4}, {"x=1);", api.ErrSyntax, 3}, {"x=1.5;", api.ErrSyntax, 3}, {"x=:;", api.ErrSyntax, 2}, {"x=/;", api.ErrSyntax, 2},
		{"*0{}", api.ErrSyntax, 1}, {"*12{}", api.ErrSyntax, 2}, {"*a{}", api.ErrSyntax, 1}, {"*:{}", api.ErrSyntax, 1}, {"*(1){}", api.ErrSyntax, 1}, {"*1;", api.ErrSyntax, 2}, {"*1{}{}", api.ErrSyntax, 4},
		{"(1){}{}{}", api.ErrSyntax, 7}, {"(1);", api.ErrSyntax, 3}, {"(){}", api.ErrSyntax, 1}, {"(1}{}", api.ErrSyntax, 2}, {"(1){)", api.ErrSyntax, 4}, {"(1){x=1}", api.ErrSyntax, 7}, {"(1){};", api.ErrSyntax, 5}, {"(1){}x=1;{}", api.ErrSyntax, 9},
		{"x=1;?a:-;", api.ErrSyntax, 4}, {"(1){}!a:-;", api.ErrSyntax, 5}, {"*2{?a:-;}", api.ErrSyntax, 3}, {"?1:-;", api.ErrSyntax, 1}, {"?a=1;", api.ErrSyntax, 2}, {"?a:-:", api.ErrSyntax, 4}, {"?!a:-;", api.ErrSyntax, 1},
		{"^x=1;", api.ErrSyntax, 2}, {"^1:-=1;", api.ErrSyntax, 1}, {"^x:=1;", api.ErrSyntax, 3}, {"^x:A1;", api.ErrSyntax, 4}, {"x=1;}", api.ErrSyntax, 4}, {";", api.ErrSyntax, 0}, {"-1;", api.ErrSyntax, 0}, {"1;", api.ErrSyntax, 0}, {"\xff", api.ErrSyntax, 0},
	})
}

// P4.
func TestNamesTwice(t *testing.T) {
	var all strings.Builder
	for name := 'a'; name <= 'z'; name++ {
		all.WriteString("?" + string(name) + ":-;")
	}
	checkAll(t, []want{
		{"?a:A;?a:B;", api.ErrName, 6}, {"?a:A;!a:A;", api.ErrName, 6}, {"!a:A;?a:A;", api.ErrName, 6}, {"!a:-;!a:-;", api.ErrName, 6},
		{"?a:-;?b:-;", api.OK, 0}, {"?a:-;?b:-;!c:-;?b:-;?a:-;", api.ErrName, 16}, {"?a:-;?a:-;?a:-;", api.ErrName, 6}, {" ?\na:-; ! \n a:-;", api.ErrName, 12},
		{all.String(), api.OK, 0}, {all.String() + "!z:-;", api.ErrName, 131}, {all.String() + "!a:-;", api.ErrName, 131},
		{"?a:-;a=1;a=2;", api.OK, 0}, {"a=1;a=2;", api.OK, 0}, {"?a:-;?a:-;x", api.ErrSyntax, 11},
	})
}

// P5: the examples; the bound itself is tried in TestWorkBound.
func TestLarge(t *testing.T) {
	checkAll(t, []want{
		{"*9{*9{*9{*9{x=1;}}}}", api.ErrLarge, 0}, {"*9{*9{*9{x=1;}}}", api.OK, 0}, {nest("*9{", "x=1;", "}", 8), api.ErrLarge, 0}, {nest("*1{", "x=1;", "}", 8), api.OK, 0},
		// In both blocks the work counts, though at most one is worked out.
		{"(1){*9{*9{*9{x=1;}}}}{*9{*9{*9{x=1;}}}}", api.OK, 0}, {"(1){*9{*9{*9{x=1;y=1;}}}}{*9{*9{*9{x=1;}}}}", api.ErrLarge, 0},
		{"(0){*9{*9{*9{*9{x=1;}}}}}", api.ErrLarge, 0}, {"(1){}{*9{*9{*9{*9{x=1;}}}}}", api.ErrLarge, 0},
	})
}
