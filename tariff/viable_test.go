package tariff_test

import (
	"fmt"
	"math/rand"
	"strings"
	"testing"

	"tariff/api"
	"tariff/tariff"
)

// A symbol of the document's form: a byte (kind 'x'), or something that is
// written in several ways. n is the pairs round it; of secrets the least that
// may stand, of number the digits that may.
type symbol struct {
	kind string
	n    int
}

// A way on: the symbols that are still to come.
type way []symbol

func bytesOf(s string) way {
	var w way
	for i := 0; i < len(s); i++ {
		w = append(w, symbol{"byte", int(s[i])})
	}
	return w
}

func join(ways ...way) way {
	var all way
	for _, w := range ways {
		all = append(all, w...)
	}
	return all
}

func one(kind string, n int) way { return way{{kind, n}} }

func eachByte(bytes string, behind way) []way {
	var ways []way
	for i := 0; i < len(bytes); i++ {
		ways = append(ways, join(bytesOf(bytes[i:i+1]), behind))
	}
	return ways
}

// waysOf: the document's form, line by line, with { } and [ ] as symbols of their own.
func waysOf(s symbol) []way {
	n := s.n
	switch s.kind {
	case "rules":
		return []way{join(one("heads", 0), one("rest", 0))}
	case "heads":
		head := join(one("name", 0), bytesOf(":"), one("label", 0), bytesOf(";"), one("heads", 0))
		return append(eachByte("?!", head), way{})
	case "rest":
		return []way{{}, join(one("rule", n), one("rest", n))}
	case "rule":
		ways := []way{
			join(one("name", 0), bytesOf("="), one("e", n), bytesOf(";")),
			join(bytesOf("^"), one("name", 0), bytesOf(":"), one("label", 0), bytesOf("="), one("e", n), bytesOf(";")),
			join(bytesOf(">"), one("label", 0), one("e", n), bytesOf(";")),
		}
		if n < 8 {
			ways = append(ways, join(bytesOf("("), one("e", n+1), bytesOf(")"), one("block", n), one("perhaps block", n)))
			ways = append(ways, join(bytesOf("*"), one("count", 0), one("block", n)))
		}
		return ways
	case "block":
		return []way{join(bytesOf("{"), one("rest", n+1), bytesOf("}"))}
	case "perhaps block":
		return []way{{}, one("block", n)}
	case "e":
		return []way{join(one("s", n), one("perhaps compared", n))}
	case "perhaps compared":
		return append(eachByte("<=", one("s", n)), way{})
	case "s":
		return []way{join(one("p", n), one("more of s", n))}
	case "more of s":
		return append(eachByte("+-", one("s", n)), way{})
	case "p":
		return []way{join(one("u", n), one("more of p", n))}
	case "more of p":
		return append(eachByte("*/%", one("p", n)), way{})
	case "u":
		ways := []way{one("number", 18), one("name", 0), join(bytesOf("-"), one("u", n))}
		if n < 8 {
			ways = append(ways, join(bytesOf("("), one("e", n+1), bytesOf(")")))
		}
		return ways
	case "number":
		if n == 1 {
			return eachByte("0123456789", nil)
		}
		return eachByte("0123456789", one("perhaps number", n-1))
	case "perhaps number":
		return []way{{}, one("number", n)}
	case "label":
		return []way{bytesOf("-"), one("secrets", 0)}
	case "secrets":
		var ways []way
		for i := n; i < 4; i++ {
			ways = append(ways, join(bytesOf("ABCD"[i:i+1]), one("perhaps secrets", i+1)))
		}
		return ways
	case "perhaps secrets":
		return []way{{}, one("secrets", n)}
	case "name":
		return eachByte("abcdefghijklmnopqrstuvwxyz", nil)
	case "count":
		return eachByte("123456789", nil)
	}
	panic("no symbol: " + s.kind)
}

// A state is all ways in which rules that begin with some text may go on, each
// empty (the rules are whole) or with a byte at its beginning.
type state []way

func spell(w way, found map[string]bool, ways state) state {
	if len(w) == 0 || w[0].kind == "byte" {
		key := fmt.Sprint(w)
		if !found[key] {
			found[key] = true
			ways = append(ways, w)
		}
		return ways
	}
	for _, first := range waysOf(w[0]) {
		ways = spell(join(first, w[1:]), found, ways)
	}
	return ways
}

func begin() state {
	return spell(one("rules", 0), map[string]bool{}, nil)
}

func (s state) behind(b byte) state {
	if b == ' ' || b == '\n' {
		return s
	}
	var ways state
	found := map[string]bool{}
	for _, w := range s {
		if len(w) > 0 && w[0].n == int(b) {
			ways = spell(w[1:], found, ways)
		}
	}
	return ways
}

func (s state) whole() bool {
	for _, w := range s {
		if len(w) == 0 {
			return true
		}
	}
	return false
}

// next: the bytes that may stand there.
func (s state) next() [256]bool {
	var may [256]bool
	may[' '], may['\n'] = true, true
	for _, w := range s {
		if len(w) > 0 {
			may[w[0].n] = true
		}
	}
	return may
}

// tryHere compares Check with the form at one text that rules begin with, and
// at each byte behind it.
func tryHere(t *testing.T, text string, s state) {
	t.Helper()
	errno, place := tariff.Check(text)
	if early := errno == api.ErrSyntax && place == len(text); early == s.whole() || (errno == api.ErrSyntax) != early {
		t.Fatalf("Check(%q) = %d, %d; the rules are whole: %v", text, errno, place, s.whole())
	}
	for b, may := range s.next() {
		longer := text + string([]byte{byte(b)})
		errno, place := tariff.Check(longer)
		if refused := errno == api.ErrSyntax && place == len(text); refused == may {
			t.Fatalf("Check(%q) = %d, %d; its last byte may stand there: %v", longer, errno, place, may)
		}
		if !may {
			// What follows cannot mend it, nor move the place.
			checkAll(t, []want{{longer + "x=1;", api.ErrSyntax, len(text)}})
		}
	}
}

func tryAll(t *testing.T, text string, s state, more int) {
	tryHere(t, text, s)
	if more == 0 {
		return
	}
	may := s.next()
	for _, b := range []byte("aAC1 ?!:;=^>(){}*-+<") {
		if may[b] {
			tryAll(t, text+string([]byte{b}), s.behind(b), more-1)
		}
	}
}

// P3: all short texts.
func TestEveryPlaceShort(t *testing.T) {
	tryAll(t, "", begin(), 4)
}

// P3: long texts, by chance but the same each time; opening bytes and digits
// are favoured, so that the bounds are reached.
func TestEveryPlaceLong(t *testing.T) {
	source := rand.New(rand.NewSource(1))
	for _, favour := range []string{"", "((((", "{*1", "({1)", "0000000", "ABCD>", "))}};;"} {
		for walk := 0; walk < 8; walk++ {
			text, s := "", begin()
			for len(text) < 60 {
				tryHere(t, text, s)
				b := pick(source, s.next(), favour)
				text, s = text+string([]byte{b}), s.behind(b)
			}
		}
	}
}

func pick(source *rand.Rand, may [256]bool, favour string) byte {
	var bytes []byte
	for b := range may {
		if may[b] {
			bytes = append(bytes, byte(b))
			for range 20 * strings.Count(favour, string(rune(b))) {
				bytes = append(bytes, byte(b))
			}
		}
	}
	return bytes[source.Intn(len(bytes))]
}
