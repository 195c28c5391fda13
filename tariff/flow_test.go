package tariff_test

import (
	"strings"
	"testing"

	"tariff/api"
	"tariff/tariff"
)

// P6: the label that something is told to, against that of what is told.
func TestTold(t *testing.T) {
	checkAll(t, []want{
		{"?a:A;?b:B;>A a;>AB a+b;", api.OK, 0}, {"?a:A;>-a;", api.ErrFlow, 5}, {"?a:A;>B a;", api.ErrFlow, 5}, {"?a:A;>BCD a;", api.ErrFlow, 5}, {"?a:A;>ABCD a;", api.OK, 0}, {"?a:ABCD;>ABD a;", api.ErrFlow, 8}, {"?a:-;>-a;", api.OK, 0}, {"?a:-;>D a;", api.OK, 0},
		{"!a:A;>-a;", api.ErrFlow, 5}, {"!a:A;>A a;", api.OK, 0},
		// A name tells something wherever it stands in e, even if its value can make no difference.
		{"?a:A;>-a*0;", api.ErrFlow, 5}, {"?a:A;>-0*a;", api.ErrFlow, 5}, {"?a:A;>-a-a;", api.ErrFlow, 5}, {"?a:A;>-1+(2<-(3%a));", api.ErrFlow, 5}, {"?a:A;>-1=a;", api.ErrFlow, 5}, {"?a:A;?b:B;>A a+b;", api.ErrFlow, 10}, {"?a:A;?b:B;>B a+b;", api.ErrFlow, 10},
		{">-1;", api.OK, 0}, {"?a:A;>-1;", api.OK, 0}, {">-x;", api.OK, 0}, {">A x;", api.OK, 0},
	})
}

// P6: the first rule that is not clean, and where its first byte stands.
func TestFirstUnclean(t *testing.T) {
	checkAll(t, []want{
		{"?a:A;x=a;>-1;>B x;", api.ErrFlow, 13}, {"?a:A;>A a;>-a;>-a;", api.ErrFlow, 10}, {"?a:A;>-a;x=;", api.ErrSyntax, 11},
		{" ?a:A;\n >-a;", api.ErrFlow, 8}, {"?a:A; \n \n>-a;", api.ErrFlow, 9}, {"?a:A;>A a; > - a;", api.ErrFlow, 11}, {"?a:A;(a){ \n>-1;}", api.ErrFlow, 11}, {"?a:A;(a){>A 1;\n\n ^x:-=1;}", api.ErrFlow, 17}, {"!x:-;?a:A;\nx\n=\na;", api.ErrFlow, 11}, {"?a:A;!x:-;*2{ x=a;}", api.ErrFlow, 14}, {"?a:A;(1) {} { >-a;}", api.ErrFlow, 14},
		// The rules of a block stand ahead of those behind it, the first block ahead of the second.
		{"?a:A;(a){>-1;}{>-2;}>-a;", api.ErrFlow, 9}, {"?a:A;(a){>A 1;}{>-2;}>-a;", api.ErrFlow, 16}, {"?a:A;(a){>A 1;}{>A 2;}>-a;", api.ErrFlow, 22}, {"?a:A;>-a;(a){>-1;}", api.ErrFlow, 5}, {"?a:A;*2{>-a;}>-a;", api.ErrFlow, 8}, {"?a:A;(a){(1){(1){}{>-1;}}}>-a;", api.ErrFlow, 19}, {"?a:A;(1){>A a;(1){>-a;}>-a;}{>-a;}", api.ErrFlow, 18},
		// The name's label is what it is all through the rules.
		{">-x;x=1;", api.OK, 0}, {"?a:A;>-x;x=a;", api.ErrFlow, 5}, {"?a:A;x=a;x=1;>-x;", api.ErrFlow, 13}, {"?a:A;x=1;>-x;x=a;", api.ErrFlow, 9}, {"?a:A;a=1;>-a;", api.ErrFlow, 9},
	})
}

// P6: the ground, of one and of several conditions, in both blocks.
func TestGround(t *testing.T) {
	checkAll(t, []want{
		{"?a:A;(a){>-1;}", api.ErrFlow, 9}, {"?a:A;(a){}{>-1;}", api.ErrFlow, 11}, {"?a:A;(a){>A 1;}{>A 1;}", api.OK, 0}, {"?a:A;(a*0){>-1;}", api.ErrFlow, 11}, {"?a:A;(a-a){}{>B 1;}", api.ErrFlow, 13}, {"?a:A;(1){>-1;}{>-1;}", api.OK, 0},
		{"?a:A;(a){}>-1;", api.OK, 0}, {"?a:A;(a){}{}>-1;", api.OK, 0}, {"?a:A;(a){}(1){>-1;}", api.OK, 0}, {"?a:A;>-1;(a){}", api.OK, 0},
		{"?a:A;?b:B;(a){(b){>AB 1;}{>AB 1;}>A 1;}{>A 1;}>-1;", api.OK, 0}, {"?a:A;?b:B;(a){(b){>A 1;}}", api.ErrFlow, 18}, {"?a:A;?b:B;(a){(b){>B 1;}}", api.ErrFlow, 18}, {"?a:A;?b:B;(a){}{(b){}{>A 1;}}", api.ErrFlow, 22}, {"?a:A;?b:B;(a){}{(b){}{>B 1;}}", api.ErrFlow, 22}, {"?a:A;?b:B;(a){(b){}>-1;}", api.ErrFlow, 19}, {"?a:A;?b:B;(a){(b){}{}>A 1;}", api.OK, 0}, {"?a:A;?b:B;(a){(b){}}{>B 1;}", api.ErrFlow, 21},
		{"?a:A;?b:B;(a){>AB b;}", api.OK, 0}, {"?a:A;?b:B;(a){>B b;}", api.ErrFlow, 14}, {"?a:A;?b:B;(a){>A b;}", api.ErrFlow, 14}, {"?a:A;?b:B;(a<b){>A 1;}", api.ErrFlow, 16}, {"?a:A;?b:B;(a<b){>AB 1;}", api.OK, 0},
		{"?a:A;?b:B;?c:C;?d:D;(a){(b){(c){(d){>ABCD 1;}>ABC 1;}>AB 1;}>A 1;}>-1;", api.OK, 0}, {"?a:A;?b:B;?c:C;?d:D;(a){(b){(c){(d){>BCD 1;}}}}", api.ErrFlow, 36}, {"?a:A;?b:B;?c:C;?d:D;(a){}{(b){(c){}{(d){>ABC 1;}}}}", api.ErrFlow, 40}, {"?a:A;?b:B;?c:C;?d:D;(a){(b){(c){(d){}>ABD 1;}}}", api.ErrFlow, 37},
		// A loop is worked out whatever the values are; it keeps the ground.
		{"?a:A;(a){*2{>-1;}}", api.ErrFlow, 12}, {"?a:A;(a){*2{>A 1;}}", api.OK, 0}, {"?a:A;*2{(a){>-1;}}", api.ErrFlow, 12}, {"?a:A;*2{(a){}>-1;}", api.OK, 0}, {"?a:A;(a){}{*1{*1{>B 1;}}}", api.ErrFlow, 17}, {"?a:A;?b:B;(a){*2{(b){>A 1;}}}", api.ErrFlow, 21}, {"?a:A;(1){*2{>-1;}}", api.OK, 0}, {"?a:A;(a){*2{}>-1;}", api.ErrFlow, 13},
		// The ground goes by the names' labels of P7.
		{"?a:A;(x){>-1;}x=a;", api.ErrFlow, 9}, {"?a:A;(x){>-1;}", api.OK, 0}, {"?a:A;(x){y=1;}(y){z=1;}x=a;>-z;", api.ErrFlow, 27}, {"?a:A;(a){x=1;}(x){>-1;}", api.ErrFlow, 18}, {"?a:A;(a){x=1;}{y=1;}>A x+y;>-y;", api.ErrFlow, 27},
	})
}

// P6: names of the head that are given a value; their labels are not enlarged.
func TestHeadNameGiven(t *testing.T) {
	checkAll(t, []want{
		{"?a:A;!x:-;x=a;", api.ErrFlow, 10}, {"?a:A;!x:A;x=a;", api.OK, 0}, {"?a:A;!x:B;x=a;", api.ErrFlow, 10}, {"?a:A;!x:AB;x=a;", api.OK, 0}, {"?a:AB;!x:A;x=a;", api.ErrFlow, 11},
		{"?a:A;a=1;>A a;", api.OK, 0}, {"?a:A;?b:B;a=b;", api.ErrFlow, 10}, {"?a:A;?b:-;a=b;", api.OK, 0}, {"?a:A;?b:-;b=a;", api.ErrFlow, 10}, {"?a:A;a=a;", api.OK, 0},
		{"?a:A;!x:-;(a){x=1;}", api.ErrFlow, 14}, {"?a:A;!x:-;(a){}{x=1;}", api.ErrFlow, 16}, {"?a:A;!x:A;(a){x=1;}{x=2;}", api.OK, 0}, {"?a:A;(a){a=1;}", api.OK, 0}, {"?a:A;?b:B;!x:A;(b){x=a;}", api.ErrFlow, 19}, {"?a:A;?b:B;!x:AB;(b){x=a;}", api.OK, 0},
		{"?a:A;!x:-;y=a;x=y;", api.ErrFlow, 14}, {"?a:A;!x:-;x=y;y=a;", api.ErrFlow, 10}, {"?a:A;!x:AB;x=1;y=x;>A y;", api.ErrFlow, 19},
	})
}

// P6: what is opened: its label against the ground and against the name's.
func TestOpened(t *testing.T) {
	checkAll(t, []want{
		{"?a:A;!x:-;^x:-=a;>-x;", api.OK, 0}, {"?a:A;^x:-=a;>-x;", api.OK, 0}, {"?a:ABCD;^x:-=a;>-x;", api.OK, 0},
		{"?a:A;^x:B=a;>-x;", api.ErrFlow, 12}, {"?a:A;^x:B=a;>A x;", api.ErrFlow, 12}, {"?a:A;^x:B=a;>B x;", api.OK, 0},
		{"!x:-;^x:B=1;", api.ErrFlow, 5}, {"!x:A;^x:B=1;", api.ErrFlow, 5}, {"!x:A;^x:AB=1;", api.ErrFlow, 5}, {"!x:AB;^x:B=1;", api.OK, 0}, {"!x:AB;^x:-=1;", api.OK, 0}, {"!x:AB;^x:AB=1;>AB x;", api.OK, 0}, {"!x:AB;^x:B=1;>B x;", api.ErrFlow, 13},
		{"?a:A;^a:-=1;>A a;", api.OK, 0}, {"?a:A;^a:-=a;>-a;", api.ErrFlow, 12}, {"?a:A;^a:B=1;", api.ErrFlow, 5},
		{"?a:A;(a){^x:-=1;}", api.ErrFlow, 9}, {"?a:A;(a){}{^x:-=1;}", api.ErrFlow, 11}, {"?a:A;(a){^x:B=1;}", api.ErrFlow, 9}, {"?a:A;(a){^x:A=1;}>A x;", api.OK, 0}, {"?a:A;(a){^x:A=1;}>-x;", api.ErrFlow, 17}, {"?a:A;(a){^x:AB=1;}>A x;", api.ErrFlow, 18}, {"?a:A;*2{(a){*2{^x:-=1;}}}", api.ErrFlow, 15},
		{"?a:A;?b:B;(a){^x:A=b;}>A x;", api.OK, 0}, {"?a:A;?b:B;(a){(b){^x:A=1;}}", api.ErrFlow, 18}, {"?a:A;?b:B;(a){(b){^x:AB=1;}}", api.OK, 0},
		{"?a:A;!x:B;(a){^x:AB=1;}", api.ErrFlow, 14}, {"?a:A;!x:AB;(a){^x:B=1;}", api.ErrFlow, 15}, {"?a:A;!x:-;(a){^x:A=1;}", api.ErrFlow, 14}, {"?a:A;!x:A;(a){^x:A=1;}", api.OK, 0}, {"?a:A;!x:A;(a){^x:-=1;}", api.ErrFlow, 14},
		// The ground enlarges the name's label, though the rule that opens is not clean: the one ahead of it is not, either.
		{"?a:A;>-x;(a){^x:-=1;}", api.ErrFlow, 5}, {"?a:A;>A x;(a){^x:-=1;}", api.ErrFlow, 14},
	})
}

// labelsWanted reads labels as "a1bf": of each name that has secrets the name
// and its label in hexadecimal.
func labelsWanted(list string) [api.Names]int {
	var labels [api.Names]int
	for i := 0; i+1 < len(list); i += 2 {
		labels[list[i]-'a'] = strings.IndexByte("0123456789abcdef", list[i+1])
	}
	return labels
}

func wantLabels(t *testing.T, text, list string) {
	t.Helper()
	labels, errno := tariff.Labels(text)
	if wanted := labelsWanted(list); errno != api.OK || labels != wanted {
		t.Errorf("Labels(%q) = %v, %d, want %v", text, labels, errno, wanted)
	}
}

// P7: the labels of names at the head, and of names that are given values.
func TestLabels(t *testing.T) {
	for _, c := range []struct{ text, list string }{
		{"", ""}, {"x=1;", ""}, {"?a:A;?b:B;x=y;y=a;(b){z=1;}", "a1b2x1y1z2"},
		// What stands at the head is not enlarged, nor made less.
		{"?d:ABCD;!e:BD;", "dfea"}, {"?a:-;!z:-;", ""}, {"?a:A;a=1;", "a1"}, {"?a:A;!x:AB;x=a;", "a1x3"}, {"?a:A;!x:AB;^x:-=1;", "a1x3"}, {"?a:A;!y:AB;x=y;y=a;", "a1x3y3"}, {"!x:D;", "x8"}, {"?a:AC;", "a5"},
		// No value is given: the label is empty.
		{"?a:A;>A a+x;", "a1"}, {"(x){}{}*3{}", ""}, {"?a:A;(a+x){y=1;}", "a1y1"}, {"?a:A;x=y+a;", "a1x1"}, {">ABCD x;", ""},
		// Several values: the labels are put together.
		{"?a:A;?b:B;?c:C;x=a+b;(c){x=1;}", "a1b2c4x7"}, {"?a:A;?d:D;x=a;x=d;x=1;", "a1d8x9"}, {"?a:A;x=a;x=0;", "a1x1"}, {"?a:A;x=0;", "a1"}, {"?a:A;?b:B;x=a;^x:-=b;", "a1b2x1"}, {"?a:A;?b:B;x=a;^x:C=b;", "a1b2x5"},
		// What is opened has the label that the rule tells, and the ground.
		{"?a:A;^x:D=a;", "a1x8"}, {"?a:A;^x:-=a;y=x;", "a1"}, {"?a:A;?d:D;(d){(a){^x:AD=1;}}", "a1d8x9"}, {"?a:A;?b:B;(a){^x:A=b;}", "a1b2x1"}, {"?a:A;?b:B;(a){^x:AC=b;}", "a1b2x5"}, {"?a:AB;^x:BC=a;y=x+x;", "a3x6y6"},
		// The ground.
		{"?a:A;?b:B;(a){x=1;}{y=b;}", "a1b2x1y3"}, {"?a:A;?b:B;(a){*2{(b){x=1;}}}", "a1b2x3"}, {"?a:A;?b:B;(a){(b){x=1;}y=1;}z=1;", "a1b2x3y1"}, {"?a:A;?b:B;?c:C;(a){}{(b){}{(c){}{x=1;}y=1;}z=1;}", "a1b2c4x7y3z1"}, {"?a:A;*2{x=1;}(a){*2{y=1;}}", "a1y1"}, {"?a:AB;?b:BC;(a<b){x=1;}", "a3b6x7"}, {"?a:A;?c:C;(a){}(c){x=1;}", "a1c4x4"},
		// Against the text's order, and round in a ring.
		{"?a:A;x=x+y;y=a;", "a1x1y1"}, {"?a:A;*3{x=y;y=a;}", "a1x1y1"}, {"?a:A;*2{(x){y=1;}x=a;}", "a1x1y1"}, {"?a:A;w=x;x=y;y=z;z=a;", "a1w1x1y1z1"}, {"?a:A;?b:B;x=y;y=z;z=x;y=a;x=b;", "a1b2x3y3z3"}, {"?a:A;?d:D;(x){y=1;}(y){z=1;}(z){x=1;}z=a+d;", "a1d8x9y9z9"}, {"x=y;y=z;z=x;", ""}, {"x=x;", ""}, {"?a:A;x=x;y=a;", "a1y1"}, {"?a:A;(x){x=y;}(a){y=x;}", "a1x1y1"}, {"?a:A;?b:B;(x){(y){z=w;}}w=a;y=b;", "a1b2w1y2z3"},
		// A name of the head stops what would be enlarged.
		{"?a:A;!y:A;x=y;y=a;", "a1x1y1"}, {"?a:A;!y:AD;x=y;z=x;y=a;", "a1x9y9z9"}, {" ? a : A B ; \n x = a ; ", "a3x3"},
	} {
		wantLabels(t, c.text, c.list)
	}
}

// P7: each label, at each name, at both kinds of head.
func TestEveryLabel(t *testing.T) {
	written := []string{"-", "A", "B", "AB", "C", "AC", "BC", "ABC", "D", "AD", "BD", "ABD", "CD", "ACD", "BCD", "ABCD"}
	for name := 'a'; name <= 'z'; name++ {
		for label, text := range written {
			n, digit := string(name), "0123456789abcdef"[label:label+1]
			wantLabels(t, "?"+n+":"+text+";", n+digit)
			wantLabels(t, "!"+n+":"+text+";", n+digit)
			wantLabels(t, "^"+n+":"+text+"=1;", n+digit)
			for other, to := range written {
				errno, place := api.OK, 0
				if label&^other != 0 {
					errno, place = api.ErrFlow, len(text)+4
				}
				checkAll(t, []want{{"?" + n + ":" + text + ";>" + to + "(" + n + ");", errno, place}})
			}
		}
	}
}
