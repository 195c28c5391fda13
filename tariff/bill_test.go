package tariff_test

import (
	"fmt"
	"math/rand"
	"strings"
	"testing"

	"tariff/api"
	"tariff/tariff"
)

type billing struct {
	text   string
	fields []int
	reader int
	bill   string
}

func billAll(t *testing.T, all []billing) {
	t.Helper()
	for _, b := range all {
		if bill, errno := tariff.Bill(b.text, b.fields, b.reader); errno != api.OK || bill != b.bill {
			t.Errorf("Bill(%q, %d, %d) = %q, %d, want %q", b.text, b.fields, b.reader, bill, errno, b.bill)
		}
	}
}

// P12: the examples, and what else is on a bill or is not.
func TestBills(t *testing.T) {
	const sale = "?p:-;?c:C;>-p;>C p-c;"
	billAll(t, []billing{
		{sale, []int{100, 70}, 0, "10:100\n"}, {sale, []int{100, 70}, 4, "10:100\n14:30\n"}, {sale, []int{100, 70}, 15, "10:100\n14:30\n"}, {sale, []int{100, 70}, 11, "10:100\n"}, {sale, []int{-5, 0}, 4, "10:-5\n14:-5\n"},
		{"", nil, 0, ""}, {" \n", []int{}, 15, ""}, {"?a:-;", []int{7}, 15, ""}, {"!a:-;x=1;*2{}(x){}", nil, 15, ""},
		{">-1;", nil, 0, "0:1\n"}, {">-1;>-2;>-1;", nil, 0, "0:1\n4:2\n8:1\n"}, {" \n>-1 2;\n  > - 3;", nil, 0, "2:12\n11:3\n"},
		{"*2{>-x;x=x+5;}>-x;", nil, 0, "3:0\n3:5\n14:10\n"}, {"(1){>-1;}{>-2;}(0){>-3;}{>-4;}(1/0){>-5;}{>-6;}", nil, 0, "4:1\n25:4\n"},
		// What is opened is not told, whoever reads.
		{"?a:A;^x:-=a/10;>-x;", []int{123}, 0, "15:12\n"}, {"?a:A;^x:-=a/10;>-x;", []int{123}, 15, "15:12\n"}, {"^x:-=7;", nil, 0, ""}, {"^x:-=7;", nil, 15, ""}, {"^x:A=7;>A 1;^x:A=8;", nil, 1, "7:1\n"},
		// The label of a line is the rule's, not that of what is told there.
		{"?a:A;>AB 1;>AB a;>A a;", []int{7}, 1, "17:7\n"}, {"?a:-;>A a;>-a;", []int{7}, 0, "10:7\n"}, {"?a:A;^x:-=a;>B x;>-x;", []int{7}, 2, "12:7\n17:7\n"},
		{">A 1;>B 2;>A 3;>-4;>AB 5;", nil, 1, "0:1\n10:3\n15:4\n"}, {">A 1;>B 2;>A 3;>-4;>AB 5;", nil, 2, "5:2\n15:4\n"}, {">A 1;>B 2;>A 3;>-4;>AB 5;", nil, 3, "0:1\n5:2\n10:3\n15:4\n19:5\n"},
	})
}

// P12: numbers and faults as they are written, and places up to the last.
func TestBillLines(t *testing.T) {
	for _, num := range []int{0, 1, -1, 9, 10, -10, 99, 100, 101, -100, 1000000007, most, most - 1, least, least + 1} {
		billAll(t, []billing{{"?a:A;>A a;", []int{num}, 1, fmt.Sprintf("5:%d\n", num)}})
	}
	billAll(t, []billing{
		{">-1/0;>-0%0;>-0-0;>--0;>-007;", nil, 0, "0:!2\n6:!2\n12:0\n18:0\n23:7\n"}, {"?a:-;>-a+1;>--a-2;>-a*a/0;", []int{most}, 0, "5:!1\n11:!1\n18:!1\n"}, {"?a:-;>-(a+1)/0;>-(1/0)+(a+1);", []int{most}, 0, "5:!1\n15:!2\n"},
	})
	for place := 0; place <= api.MaxText-4; place++ {
		text := strings.Repeat(" ", place) + ">-7;"
		billAll(t, []billing{{text, nil, place % 16, fmt.Sprintf("%d:7\n", place)}})
	}
}

// labelText: a label as it stands in rules.
func labelText(label int) string {
	text := ""
	for i := range 4 {
		if label>>i&1 == 1 {
			text += "ABCD"[i : i+1]
		}
	}
	if text == "" {
		return "-"
	}
	return text
}

// P12: every reader sees just the labels whose secrets it may all see.
func TestEveryReader(t *testing.T) {
	for label := range 16 {
		for reader := range 16 {
			text := ">" + labelText(label) + " 5;>-6;"
			wanted := fmt.Sprintf("%d:6\n", len(text)-4)
			seen := true
			for i := range 4 {
				if label>>i&1 == 1 && reader>>i&1 == 0 {
					seen = false
				}
			}
			if seen {
				wanted = "0:5\n" + wanted
			}
			billAll(t, []billing{{text, nil, reader, wanted}})
		}
	}
}

// billOf writes notes as Words say, with other means than the program.
func billOf(notes []api.Note, reader int) string {
	var bill strings.Builder
	for _, note := range notes {
		if note.Kind == api.Opened || !in(note.Label, reader) {
			continue
		}
		fmt.Fprint(&bill, note.Place, ":")
		if note.Value.Fault == api.Fine {
			fmt.Fprintln(&bill, note.Value.Num)
		} else {
			fmt.Fprint(&bill, "!", note.Value.Fault, "\n")
		}
	}
	return bill.String()
}

// linesOf: the lines that the bill of these notes has.
func linesOf(notes []api.Note, reader int) []api.Line {
	var lines []api.Line
	for _, note := range notes {
		if note.Kind == api.Told && in(note.Label, reader) {
			lines = append(lines, api.Line{Place: note.Place, Value: note.Value})
		}
	}
	return lines
}

// P12, P13: rules of every make, for every reader, against a second way to work
// them out; and what was written is read again.
func TestBillsOfRules(t *testing.T) {
	source := rand.New(rand.NewSource(12))
	var shown, hidden int
	for range 2000 {
		text, fields, notes := cleanRules(source)
		for reader := range 16 {
			bill, errno := tariff.Bill(text, fields, reader)
			if wanted := billOf(notes, reader); errno != api.OK || bill != wanted {
				t.Fatalf("Bill(%q, %d, %d) = %q, %d, want %q", text, fields, reader, bill, errno, wanted)
			}
			lines := linesOf(notes, reader)
			wantLines(t, bill, lines)
			shown += len(lines)
			hidden += len(notes) - len(lines)
		}
	}
	t.Logf("%d lines shown, %d notes not", shown, hidden)
	if shown < 20000 || hidden < 20000 {
		t.Errorf("too few: %d lines shown, %d notes not", shown, hidden)
	}
}

// P12: as many lines, and as long, as there may be.
func TestLongBills(t *testing.T) {
	for _, text := range []string{"?a:-;*9{*9{*9{>-a;>-a;}}}", "?a:-;*9{*9{*7{>-a;>A a;>-a;}}}", "?a:-;*8{" + strings.Repeat(">-a;", 95) + "}"} {
		for _, num := range []int{0, least} {
			notes, errno := tariff.Run(text, []int{num})
			if errno != api.OK || len(notes) < 700 {
				t.Fatalf("Run(%q, %d) leaves %d notes, %d", text, num, len(notes), errno)
			}
			for _, reader := range []int{0, 1, 14, 15} {
				billAll(t, []billing{{text, []int{num}, reader, billOf(notes, reader)}})
				wantLines(t, billOf(notes, reader), linesOf(notes, reader))
			}
		}
	}
}

// P12, P1: the errors, the one named first where several apply, and no bill.
func TestBillRefused(t *testing.T) {
	for _, c := range []struct {
		text   string
		fields []int
		reader int
		errno  api.Errno
	}{
		{strings.Repeat(" ", 401), nil, 0, api.ErrLong}, {">-1;x", nil, 0, api.ErrSyntax}, {"?a:-;?a:-;>-1;", []int{1, 2}, 0, api.ErrName}, {">-1;*9{*9{*9{*9{}}}}", nil, 0, api.ErrLarge}, {"?a:A;>-1;>-a;", []int{1}, 0, api.ErrFlow},
		// Rules are refused for all readers, those too who may see the secret.
		{"?a:A;>-1;>-a;", []int{1}, 1, api.ErrFlow}, {"?a:A;>-1;>-a;", []int{1}, 15, api.ErrFlow},
		{">-1;", []int{1}, 0, api.ErrInput}, {"?a:-;>-1;", nil, 0, api.ErrInput}, {"?a:-;>-1;", []int{}, 0, api.ErrInput}, {"?a:-;>-1;", []int{1, 2}, 0, api.ErrInput}, {"!a:-;>-1;", []int{1}, 0, api.ErrInput}, {"?a:-;!x:-;?b:-;>-1;", []int{1, 2, 3}, 0, api.ErrInput}, {"?a:-;!x:-;?b:-;>-1;", []int{1}, 0, api.ErrInput}, {"", make([]int, 30), 0, api.ErrInput},
		{"", nil, 16, api.ErrArg}, {"", nil, -1, api.ErrArg}, {">-1;", nil, 16, api.ErrArg}, {">-1;", nil, -1, api.ErrArg}, {">-1;", nil, 17, api.ErrArg}, {">-1;", nil, 31, api.ErrArg}, {">-1;", nil, 32, api.ErrArg}, {">-1;", nil, -16, api.ErrArg}, {">-1;", nil, 256, api.ErrArg}, {">-1;", nil, 1 << 32, api.ErrArg}, {">-1;", nil, most, api.ErrArg}, {">-1;", nil, least, api.ErrArg}, {"?a:A;>A a;", []int{1}, 16, api.ErrArg},
		{strings.Repeat("x", 401), []int{1}, 16, api.ErrLong}, {"x", []int{1}, 16, api.ErrSyntax}, {"?a:-;?a:-;", nil, -1, api.ErrName}, {"*9{*9{*9{*9{}}}}", []int{1}, 16, api.ErrLarge}, {"?a:A;>-a;", nil, 16, api.ErrFlow}, {"?a:A;>A a;", nil, 16, api.ErrInput}, {">-1;", []int{1}, -1, api.ErrInput},
	} {
		if bill, errno := tariff.Bill(c.text, c.fields, c.reader); bill != "" || errno != c.errno {
			t.Errorf("Bill(%.50q, %d, %d) = %q, %d, want %d", c.text, c.fields, c.reader, bill, errno, c.errno)
		}
	}
}

// P12, P6: if nothing is opened, a bill is the same whatever the fields are that
// its reader may not see.
func TestBillTellsNoSecret(t *testing.T) {
	source := rand.New(rand.NewSource(13))
	numbers := []int{0, 0, 1, -1, 2, 3, 10, most, least}
	var told, differ int
	for tried := 0; tried < 3000; {
		w := &teller{source: source, names: "abcxy", full: 3}
		for _, name := range []string{"a", "b", "c"} {
			w.write("?" + name + ":")
			label := w.anyLabel()
			w.writeLabel(label)
			w.write(";")
			w.head[name[0]-'a'] = label
		}
		for range 3 + source.Intn(6) {
			w.writeRule(0, "")
		}
		text := w.text.String()
		if errno, _ := tariff.Check(text); errno != api.OK || strings.Contains(text, "^") || !strings.Contains(text, ">") {
			continue
		}
		tried++
		reader := source.Intn(16)
		fields := []int{numbers[source.Intn(9)], numbers[source.Intn(9)], numbers[source.Intn(9)]}
		bill, _ := tariff.Bill(text, fields, reader)
		all, _ := tariff.Bill(text, fields, 15)
		told += len(bill)
		for range 8 {
			others := append([]int{}, fields...)
			for i := range others {
				if !in(w.head[i], reader) {
					others[i] = numbers[source.Intn(9)]
				}
			}
			if other, errno := tariff.Bill(text, others, reader); errno != api.OK || other != bill {
				t.Fatalf("Bill(%q, %d, %d) = %q, %d; with %d = %q", text, others, reader, other, errno, fields, bill)
			}
			if other, _ := tariff.Bill(text, others, 15); other != all {
				differ++
			}
		}
	}
	t.Logf("%d bytes told; %d bills of all secrets differ", told, differ)
	if told < 3000 || differ < 500 {
		t.Errorf("too few: %d bytes told; %d bills of all secrets differ", told, differ)
	}
}
