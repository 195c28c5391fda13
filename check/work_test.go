package check

import (
	"strings"
	"testing"

	"tariff/syntax"
)

func TestWork(t *testing.T) {
	for _, c := range []struct {
		text string
		work int
	}{
		{"", 0}, {"?a:A;!b:-;", 0},
		{"x=1;", 2}, {"x=a;", 2}, {"x=-1;", 3}, {"x=--1;", 4}, {"x=((1));", 2}, {"x=12345;", 2},
		{"x=a+1;", 4}, {"x=a+1-2*3/4%5;", 12}, {"x=a<b;", 4}, {"x=a=b;", 4},
		{"^x:AB=a+1;", 4}, {">AB a+1;", 4}, {">-1;", 2}, {">--1;", 3},
		{"(a){}", 2}, {"(a<1){}{}", 4}, {"(a){x=1;}", 4}, {"(a){x=1;}{y=1;z=1;}", 8}, {"(a){}{x=1;}", 4},
		{"*1{}", 2}, {"*9{}", 10}, {"*3{x=1;}", 10}, {"*3{x=1;y=1;}", 16}, {"*2{*3{x=1;}}", 23}, {"*2{(a){x=1;}{y=1;}}", 15},
		{"x=1;y=1;", 4},
		{strings.Repeat("*9{", 8) + "x=1;" + strings.Repeat("}", 8), 139901842},
	} {
		tree, _, ok := syntax.Parse(c.text)
		if !ok {
			t.Fatalf("%q is refused", c.text)
		}
		if got := workOfAll(tree.Rules); got != c.work {
			t.Errorf("the work of %q is %d, want %d", c.text, got, c.work)
		}
	}
}
