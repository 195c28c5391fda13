package syntax

import (
	"reflect"
	"strings"
	"testing"

	"tariff/api"
)

func parse(t *testing.T, text string) Tree {
	t.Helper()
	tree, place, ok := Parse(text)
	if !ok || place != 0 {
		t.Fatalf("Parse(%q) answers %d, %v", text, place, ok)
	}
	return tree
}

func TestHeads(t *testing.T) {
	tree := parse(t, "?a:A;! z :\nB C;?m:-;!b:ABCD;")
	want := []Head{
		{Field: true, Place: 1, Name: 0, Label: 1},
		{Place: 7, Name: 25, Label: 6},
		{Field: true, Place: 16, Name: 12, Label: 0},
		{Place: 21, Name: 1, Label: 15},
	}
	if !reflect.DeepEqual(tree.Heads, want) || len(tree.Rules) != 0 {
		t.Errorf("heads %v, want %v; rules %v, want none", tree.Heads, want, tree.Rules)
	}
}

func TestLabels(t *testing.T) {
	for label, text := range []string{"-", "A", "B", "AB", "C", "AC", "BC", "ABC", "D", "AD", "BD", "ABD", "CD", "ACD", "BCD", "ABCD"} {
		tree := parse(t, ">"+text+" 1;")
		if got := tree.Rules[0].Label; got != label {
			t.Errorf("the label %s is %d, want %d", text, got, label)
		}
	}
}

func TestRules(t *testing.T) {
	one := []Part{{Op: api.Set, Num: 1}}
	tree := parse(t, " z=1;^b:AD=1;>C 1;(1){x=1;}{y=1;*3{}}*9{>-1;}")
	want := []Rule{
		{Kind: Give, Place: 1, Name: 25, Expr: one},
		{Kind: Open, Place: 5, Name: 1, Label: 9, Expr: one},
		{Kind: Tell, Place: 13, Label: 4, Expr: one},
		{Kind: Cond, Place: 18, Expr: one,
			First: []Rule{{Kind: Give, Place: 22, Name: 23, Expr: one}},
			Second: []Rule{
				{Kind: Give, Place: 28, Name: 24, Expr: one},
				{Kind: Loop, Place: 32, Count: 3},
			}},
		{Kind: Loop, Place: 37, Count: 9,
			First: []Rule{{Kind: Tell, Place: 40, Expr: one}}},
	}
	if !reflect.DeepEqual(tree.Rules, want) || len(tree.Heads) != 0 {
		t.Errorf("rules\n%v, want\n%v", tree.Rules, want)
	}
}

// polish writes the parts of an expression, both sides ahead of an operation;
// a - ahead of a value as ~.
func polish(expr []Part) string {
	var out strings.Builder
	for _, part := range expr {
		switch part.Op {
		case api.Set:
			out.WriteByte(byte('0' + part.Num))
		case api.Copy:
			out.WriteByte(byte('a' + part.Num))
		default:
			out.WriteByte("~+-*/%<="[part.Op-api.Neg])
		}
	}
	return out.String()
}

func TestExpressions(t *testing.T) {
	for _, c := range [][2]string{
		{"1", "1"}, {"z", "z"}, {"-a", "a~"}, {"--a", "a~~"}, {"((a))", "a"},
		{"a+b-c", "ab+c-"}, {"a-b+c", "ab-c+"}, {"a-(b+c)", "abc+-"},
		{"a*b/c%d", "ab*c/d%"}, {"a%b*c", "ab%c*"}, {"a/(b/c)", "abc//"},
		{"a+b*c", "abc*+"}, {"a*b+c", "ab*c+"}, {"(a+b)*c", "ab+c*"},
		{"-a*b", "a~b*"}, {"-(a*b)", "ab*~"}, {"a--b", "ab~-"}, {"a*-b", "ab~*"},
		{"a<b", "ab<"}, {"a=b", "ab="}, {"a+1<b*2", "a1+b2*<"}, {"(a<b)=(c<d)", "ab<cd<="},
	} {
		tree := parse(t, "x="+c[0]+";")
		if got := polish(tree.Rules[0].Expr); got != c[1] {
			t.Errorf("%s is read as %s, want %s", c[0], got, c[1])
		}
	}
}

func TestNumbers(t *testing.T) {
	for _, c := range []struct {
		text string
		num  int
	}{
		{"0", 0}, {"9", 9}, {"10", 10}, {"1\n2 3", 123}, {"000000000000000007", 7},
		{"999999999999999999", 999999999999999999}, {"123456789012345678", 123456789012345678},
	} {
		tree := parse(t, "x="+c.text+";")
		if got, want := tree.Rules[0].Expr, []Part{{Op: api.Set, Num: c.num}}; !reflect.DeepEqual(got, want) {
			t.Errorf("%s is read as %v, want %v", c.text, got, want)
		}
	}
}

func TestRefused(t *testing.T) {
	for _, c := range []struct {
		text  string
		place int
	}{{"x", 1}, {"x=1;y=;", 6}, {"?a:A;x=1;?b:B;", 9}, {"*2{x=1;", 7}} {
		tree, place, ok := Parse(c.text)
		if ok || place != c.place || !reflect.DeepEqual(tree, Tree{}) {
			t.Errorf("Parse(%q) answers %v, %d, %v; want nothing, %d, false", c.text, tree, place, ok, c.place)
		}
	}
}
