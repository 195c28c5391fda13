package tariff_test

import (
	"fmt"
	"math/big"
	"math/rand"
	"reflect"
	"regexp"
	"strconv"
	"strings"
	"testing"

	"tariff/api"
	"tariff/tariff"
)

func wantLines(t *testing.T, bill string, wanted []api.Line) {
	t.Helper()
	lines, errno := tariff.Read(bill)
	if errno != api.OK || len(lines) != len(wanted) || len(lines) > 0 && !reflect.DeepEqual(lines, wanted) {
		t.Errorf("Read(%.200q) = %.200v, %d, want %.200v", bill, lines, errno, wanted)
	}
}

func wantNoBill(t *testing.T, bill string) {
	t.Helper()
	if lines, errno := tariff.Read(bill); lines != nil || errno != api.ErrBill {
		t.Errorf("Read(%.200q) = %.200v, %d, want ErrBill", bill, lines, errno)
	}
}

func number(place, num int) api.Line {
	return api.Line{Place: place, Value: api.Value{Num: num}}
}

func fault(place, why int) api.Line {
	return api.Line{Place: place, Value: api.Value{Fault: why}}
}

// P13: lines of every make.
func TestRead(t *testing.T) {
	for _, c := range []struct {
		bill  string
		lines []api.Line
	}{
		{"", nil}, {"0:0\n", []api.Line{number(0, 0)}}, {"12:-305\n40:!2\n", []api.Line{number(12, -305), fault(40, api.ByZero)}}, {"10:100\n14:30\n", []api.Line{number(10, 100), number(14, 30)}},
		{"400:1\n", []api.Line{number(400, 1)}}, {"399:-1\n", []api.Line{number(399, -1)}}, {"1:!1\n", []api.Line{fault(1, api.Overflow)}}, {"1:!2\n1:!1\n", []api.Line{fault(1, api.ByZero), fault(1, api.Overflow)}},
		// In whatever order, and one line again and again.
		{"9:1\n3:1\n9:1\n9:1\n", []api.Line{number(9, 1), number(3, 1), number(9, 1), number(9, 1)}}, {"0:!1\n0:0\n0:!2\n0:-1\n", []api.Line{fault(0, 1), number(0, 0), fault(0, 2), number(0, -1)}},
		{"7:9223372036854775807\n7:-9223372036854775808\n7:9223372036854775806\n7:-9223372036854775807\n", []api.Line{number(7, most), number(7, least), number(7, most-1), number(7, -most)}},
		{"1:1000000000000000000\n1:-1000000000000000000\n1:999999999999999999\n1:9\n1:-9\n1:10\n1:-10\n", []api.Line{number(1, 1000000000000000000), number(1, -1000000000000000000), number(1, 999999999999999999), number(1, 9), number(1, -9), number(1, 10), number(1, -10)}},
	} {
		wantLines(t, c.bill, c.lines)
	}
}

// P13: what is no bill, alone, and ahead of and behind lines that are.
func TestNoBills(t *testing.T) {
	for _, bad := range []string{
		"3:-0\n", "03:1\n", "3:!3\n", "401:1\n", "\n", ":\n", ":3\n", "3:\n", "3\n", "3:1:\n", "3:1:1\n", "3::1\n", ":3:1\n", "x\n", "3:x\n", "x:3\n",
		"-1:1\n", "-0:1\n", "00:1\n", "000:1\n", "0400:1\n", "+3:1\n", "402:1\n", "409:1\n", "410:1\n", "500:1\n", "999:1\n", "1000:1\n", "4000:1\n", "!1:1\n", "3 :1\n", " 3:1\n", "0x3:1\n", "18446744073709551616:1\n", "18446744073709551619:1\n", "4294967299:1\n", "-18446744073709551613:1\n",
		"3:00\n", "3:01\n", "3:-01\n", "3:-00\n", "3:+1\n", "3:--1\n", "3:-\n", "3:1-\n", "3:1-1\n", "3: 1\n", "3:1 \n", "3:- 1\n", "3:1 0\n", "3:1_0\n", "3:1,0\n", "3:1.0\n", "3:1e1\n", "3:0x1\n", "3:\t1\n", "3:1\r\n", "3:1\x00\n", "3:\xb2\n", "3:٣\n", "3:/\n", "3:1/\n", "3:1;\n",
		"3:9223372036854775808\n", "3:-9223372036854775809\n", "3:9223372036854775809\n", "3:9223372036854775810\n", "3:-9223372036854775810\n", "3:9223372036854775900\n", "3:10000000000000000000\n", "3:-10000000000000000000\n", "3:18446744073709551616\n", "3:18446744073709551617\n", "3:-18446744073709551616\n", "3:-18446744073709551617\n", "3:92233720368547758070\n", "3:-92233720368547758080\n", "3:" + strings.Repeat("9", 1000) + "\n", "3:1" + strings.Repeat("0", 64) + "\n", "3:" + strings.Repeat("0", 64) + "1\n",
		"3:!\n", "3:!0\n", "3:!4\n", "3:!9\n", "3:!11\n", "3:!12\n", "3:!20\n", "3:!01\n", "3:!-1\n", "3:-!1\n", "3:!!1\n", "3:!1!\n", "3:! 1\n", "3:1!\n", "3:0!1\n", "3!1\n", "!\n",
	} {
		wantNoBill(t, bad)
		wantNoBill(t, "3:1\n"+bad)
		wantNoBill(t, bad+"3:1\n")
		wantNoBill(t, "0:!1\n"+bad+"400:-7\n")
	}
	// Each line ends with a line end, and there is nothing else.
	for _, bill := range []string{"3:1\n", "400:-305\n", "0:0\n", "3:!2\n", "12:-305\n40:!2\n7:9223372036854775807\n"} {
		for end := range bill {
			if end > 0 && bill[end-1] != '\n' {
				wantNoBill(t, bill[:end])
			}
		}
		wantNoBill(t, "\n"+bill)
		wantNoBill(t, bill+"\n")
		wantNoBill(t, bill+bill[:len(bill)-1])
		wantNoBill(t, strings.ReplaceAll(bill, "\n", "\n\n"))
	}
}

// P13: every place, and some that are none.
func TestPlacesOfLines(t *testing.T) {
	for place := -1000; place <= 10000; place++ {
		bill := fmt.Sprintf("%d:5\n", place)
		if place >= 0 && place <= 400 {
			wantLines(t, bill, []api.Line{number(place, 5)})
		} else {
			wantNoBill(t, bill)
		}
	}
}

var lineForm = regexp.MustCompile(`^(0|[1-9][0-9]*):(0|-?[1-9][0-9]*|![12])$`)

// readAgain reads a bill in a second way: by a form, with unbounded numbers.
func readAgain(bill string) ([]api.Line, bool) {
	parts := strings.SplitAfter(bill, "\n")
	if parts[len(parts)-1] != "" {
		return nil, false
	}
	var lines []api.Line
	for _, part := range parts[:len(parts)-1] {
		match := lineForm.FindStringSubmatch(strings.TrimSuffix(part, "\n"))
		if match == nil {
			return nil, false
		}
		place, _ := new(big.Int).SetString(match[1], 10)
		if place.Cmp(big.NewInt(400)) > 0 {
			return nil, false
		}
		if match[2][0] == '!' {
			lines = append(lines, fault(int(place.Int64()), int(match[2][1]-'0')))
			continue
		}
		num, _ := new(big.Int).SetString(match[2], 10)
		if !num.IsInt64() {
			return nil, false
		}
		lines = append(lines, number(int(place.Int64()), int(num.Int64())))
	}
	return lines, true
}

// compareReading answers whether the text is a bill.
func compareReading(t *testing.T, text string) bool {
	t.Helper()
	lines, ok := readAgain(text)
	if ok {
		wantLines(t, text, lines)
	} else {
		wantNoBill(t, text)
	}
	return ok
}

// P13: all short texts of the bytes that a bill has, and some others.
func TestReadShort(t *testing.T) {
	texts := []string{""}
	for range 6 {
		var longer []string
		for _, text := range texts {
			for _, b := range "0124:!-\n " {
				longer = append(longer, text+string(b))
			}
		}
		bills := 0
		for _, text := range longer {
			if compareReading(t, text) {
				bills++
			}
		}
		t.Logf("of %d bytes: %d texts, %d bills", len(longer[0]), len(longer), bills)
		texts = longer
	}
}

// P13: every byte at every place of a bill, put in its stead and put in; and
// every byte left out.
func TestReadChanged(t *testing.T) {
	bill := "0:0\n400:-305\n12:!2\n39:9223372036854775807\n4:-9223372036854775808\n10:!1\n"
	for at := 0; at <= len(bill); at++ {
		for b := range 256 {
			compareReading(t, bill[:at]+string([]byte{byte(b)})+bill[at:])
			if at < len(bill) {
				compareReading(t, bill[:at]+string([]byte{byte(b)})+bill[at+1:])
			}
		}
		if at < len(bill) {
			compareReading(t, bill[:at]+bill[at+1:])
		}
	}
}

// P13: numbers at and beside the bounds, however many digits they have.
func TestReadNumbers(t *testing.T) {
	source := rand.New(rand.NewSource(14))
	for range 20000 {
		num := big.NewInt(int64([]int{0, most, least, 400, most / 10, least / 10, source.Int()}[source.Intn(7)]))
		for range source.Intn(3) {
			switch source.Intn(4) {
			case 0:
				num.Add(num, big.NewInt(int64(source.Intn(41)-20)))
			case 1:
				num.Mul(num, big.NewInt(int64(source.Intn(12))))
			case 2:
				num.Neg(num)
			case 3:
				num.Add(num, new(big.Int).Lsh(big.NewInt(1), uint(source.Intn(130))))
			}
		}
		compareReading(t, "1:"+num.String()+"\n")
		compareReading(t, num.String()+":1\n")
	}
	for digit := range 100 {
		for _, start := range []string{"922337203685477580", "-922337203685477580", "92233720368547758", "-92233720368547758", "922337203685477581", "-922337203685477579", "", "4", "40", "39"} {
			compareReading(t, "1:"+start+strconv.Itoa(digit)+"\n")
			compareReading(t, start+strconv.Itoa(digit)+":1\n")
		}
	}
}

// P13, P1: there is no bound on how long a bill is.
func TestReadLong(t *testing.T) {
	const count = 200000
	bill := strings.Repeat("400:-9223372036854775808\n", count)
	lines, errno := tariff.Read(bill)
	if errno != api.OK || len(lines) != count {
		t.Fatalf("Read of %d lines = %d lines, %d", count, len(lines), errno)
	}
	for _, line := range lines {
		if line != number(400, least) {
			t.Fatalf("Read of %d lines has the line %v", count, line)
		}
	}
	wantNoBill(t, bill+"400")
	wantNoBill(t, bill+"\n")
	wantNoBill(t, strings.Repeat("9", 1000000))
	wantNoBill(t, "3:"+strings.Repeat("9", 1000000)+"\n")
	wantNoBill(t, strings.Repeat("\n", 1000000))
}

// P2: lines that came out are the caller's.
func TestLinesAreTheCallers(t *testing.T) {
	for _, bill := range []string{"", "3:1\n", "12:-305\n40:!2\n3:4\n", strings.Repeat("400:-7\n", 100)} {
		first, _ := tariff.Read(bill)
		second, _ := tariff.Read(bill)
		held := append([]api.Line{}, second...)
		scribble(nil, nil, first)
		scribble(nil, nil, append(second, number(8, 8))[len(second):])
		tariff.Read("400:1\n399:2\n398:!1\n397:!2\n")
		third, _ := tariff.Read(bill)
		if !reflect.DeepEqual(append([]api.Line{}, second...), held) || !reflect.DeepEqual(append([]api.Line{}, third...), held) {
			t.Errorf("Read(%.50q) became %.200v, %.200v, was %.200v", bill, second, third, held)
		}
	}
}
