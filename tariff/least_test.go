package tariff_test

import (
	"fmt"
	"math/rand"
	"strconv"
	"strings"
	"testing"

	"tariff/api"
	"tariff/tariff"
)

// What a rule says of labels, kept while its text is written: so nothing here
// needs to read a text. expr and ground are the names that stand there.
type saying struct {
	kind         byte // of the rule: '=', '^', '>'
	place        int
	name         int
	label        int
	expr, ground string
}

type labels = [api.Names]int

func together(names string, all labels) int {
	label := 0
	for _, name := range names {
		label |= all[name-'a']
	}
	return label
}

func in(label, other int) bool { return label&^other == 0 }

// clean: as Words say.
func (s saying) clean(all labels) bool {
	expr, ground := together(s.expr, all), together(s.ground, all)
	switch s.kind {
	case '=':
		return in(expr, all[s.name]) && in(ground, all[s.name])
	case '^':
		return in(ground, s.label) && in(s.label, all[s.name])
	}
	return in(expr, s.label) && in(ground, s.label)
}

// content: as P7 asks of a rule that gives a value to a name that is not at the head.
func (s saying) content(all labels) bool {
	switch s.kind {
	case '=':
		return in(together(s.ground, all), all[s.name]) && in(together(s.expr, all), all[s.name])
	case '^':
		return in(together(s.ground, all), all[s.name]) && in(s.label, all[s.name])
	}
	return true
}

// A teller writes rules and keeps what they say.
type teller struct {
	source  *rand.Rand
	names   string
	full    int // one of so many labels is just ABCD
	atHead  [api.Names]bool
	head    labels
	text    strings.Builder
	sayings []saying
}

func (w *teller) write(piece string) {
	w.text.WriteString(piece)
	w.text.WriteString([]string{"", "", "", "", " ", "\n", " \n"}[w.source.Intn(7)])
}

func (w *teller) anyName() string {
	i := w.source.Intn(len(w.names))
	return w.names[i : i+1]
}

func (w *teller) anyLabel() int {
	if w.source.Intn(w.full) == 0 {
		return 15
	}
	return w.source.Intn(16)
}

func (w *teller) writeLabel(label int) {
	if label == 0 {
		w.write("-")
	}
	for i := range 4 {
		if label>>i&1 == 1 {
			w.write("ABCD"[i : i+1])
		}
	}
}

func (w *teller) writeHead(name string) {
	label := w.anyLabel()
	w.write("?!"[w.source.Intn(2):][:1])
	w.write(name + ":")
	w.writeLabel(label)
	w.write(";")
	w.atHead[name[0]-'a'] = true
	w.head[name[0]-'a'] = label
}

// writeExpr answers the names that stand in it.
func (w *teller) writeExpr() string {
	names := ""
	for {
		if w.source.Intn(2) == 0 {
			w.write(strconv.Itoa(w.source.Intn(30)))
		} else {
			name := w.anyName()
			w.write([]string{name, "-" + name, "(0*" + name + ")"}[w.source.Intn(3)])
			names += name
		}
		if w.source.Intn(2) == 0 {
			return names
		}
		w.write([]string{"+", "-", "*", "/", "%"}[w.source.Intn(5)])
	}
}

func (w *teller) writeBlock(depth int, ground string) {
	w.write("{")
	for range w.source.Intn(3) {
		w.writeRule(depth+1, ground)
	}
	w.write("}")
}

func (w *teller) writeRule(depth int, ground string) {
	kind := w.source.Intn(9)
	if depth == 4 {
		kind = kind % 5
	}
	s := saying{place: w.text.Len(), ground: ground}
	at := len(w.sayings)
	switch kind {
	case 0, 1, 2:
		w.sayings = append(w.sayings, s)
		name := w.anyName()
		w.write(name)
		w.write("=")
		s.kind, s.name = '=', int(name[0]-'a')
	case 3:
		w.sayings = append(w.sayings, s)
		name := w.anyName()
		w.write("^")
		w.write(name + ":")
		s.kind, s.name, s.label = '^', int(name[0]-'a'), w.anyLabel()
		w.writeLabel(s.label)
		w.write("=")
	case 4:
		w.sayings = append(w.sayings, s)
		w.write(">")
		s.kind, s.label = '>', w.anyLabel()
		w.writeLabel(s.label)
	case 5, 6, 7:
		w.write("(")
		names := w.writeExpr()
		w.write(")")
		for range 1 + w.source.Intn(2) {
			w.writeBlock(depth, ground+names)
		}
		return
	case 8:
		w.write("*" + strconv.Itoa(1+w.source.Intn(3)))
		w.writeBlock(depth, ground)
		return
	}
	s.expr = w.writeExpr()
	w.write(";")
	w.sayings[at] = s
}

// each calls do with all labels of the names from the place at on, those at the head as told.
func (w *teller) each(at int, all labels, do func(labels)) {
	if at == len(w.names) {
		do(all)
		return
	}
	name := w.names[at] - 'a'
	if w.atHead[name] {
		all[name] = w.head[name]
		w.each(at+1, all, do)
		return
	}
	for label := range 16 {
		all[name] = label
		w.each(at+1, all, do)
	}
}

func (w *teller) content(all labels) bool {
	for _, s := range w.sayings {
		if !w.atHead[s.name] && !s.content(all) {
			return false
		}
	}
	return true
}

func (w *teller) firstUnclean(all labels) int {
	for _, s := range w.sayings {
		if !s.clean(all) {
			return s.place
		}
	}
	return -1
}

// least: of all labels with which every rule is content those that are in all others.
func (w *teller) least(t *testing.T) labels {
	var least labels
	for i := range least {
		least[i] = 15
	}
	w.each(0, labels{}, func(all labels) {
		if w.content(all) {
			for i := range least {
				least[i] &= all[i]
			}
		}
	})
	if !w.content(least) {
		t.Fatalf("%q has no least labels", w.text.String())
	}
	return least
}

func (w *teller) compare(t *testing.T) api.Errno {
	text, least := w.text.String(), w.least(t)
	wanted, errno, place := least, api.OK, 0
	if first := w.firstUnclean(least); first >= 0 {
		wanted, errno, place = labels{}, api.ErrFlow, first
	}
	if e, at := tariff.Check(text); e != errno || at != place {
		t.Fatalf("Check(%q) = %d, %d, want %d, %d", text, e, at, errno, place)
	}
	if all, e := tariff.Labels(text); e != errno || all != wanted {
		t.Fatalf("Labels(%q) = %v, %d, want %v, %d", text, all, e, wanted, errno)
	}
	w.each(0, labels{}, func(all labels) {
		if w.firstUnclean(all) >= 0 {
			return
		}
		for i := range all {
			if errno != api.OK || !in(least[i], all[i]) {
				t.Fatalf("%q: all rules are clean with %v, the answer was %v, %d", text, all, wanted, errno)
			}
		}
	})
	return errno
}

// P6, P7: against all labels that there are of a few names.
func TestLeastOfAllLabels(t *testing.T) {
	source := rand.New(rand.NewSource(5))
	counts := [2]int{}
	for counts[0]+counts[1] < 6000 {
		w := &teller{source: source, names: "abcdxyz"[2*source.Intn(2):], full: 1 + source.Intn(4)}
		free := 2
		if source.Intn(40) == 0 {
			free = 3
		}
		for _, i := range source.Perm(len(w.names))[free:] {
			w.writeHead(w.names[i : i+1])
		}
		for range 1 + source.Intn(6) {
			w.writeRule(0, "")
		}
		if w.text.Len() > api.MaxText {
			continue
		}
		if w.compare(t) == api.OK {
			counts[0]++
		} else {
			counts[1]++
		}
	}
	if counts[0] < 1000 || counts[1] < 1000 {
		t.Fatalf("clean and not clean: %v", counts)
	}
}

// P7: chains over all names, their rules in any order, some closed to a ring,
// link by value or by ground.
func TestChains(t *testing.T) {
	source := rand.New(rand.NewSource(6))
	for range 3000 {
		order := source.Perm(api.Names)
		length := 2 + source.Intn(api.Names-1)
		var rules []string
		for i := 1; i < length; i++ {
			rules = append(rules, link(source, order[i-1], order[i]))
		}
		entry := source.Intn(length)
		rules = append(rules, "^"+letter(order[entry])+":BD=1;")
		from := entry
		if source.Intn(2) == 0 {
			rules = append(rules, link(source, order[length-1], order[0]))
			from = 0
		}
		source.Shuffle(len(rules), func(i, j int) { rules[i], rules[j] = rules[j], rules[i] })
		var wanted labels
		for i := from; i < length; i++ {
			wanted[order[i]] = 10
		}
		text := strings.Join(rules, "")
		if all, errno := tariff.Labels(text); errno != api.OK || all != wanted {
			t.Fatalf("Labels(%q) = %v, %d, want %v", text, all, errno, wanted)
		}
	}
}

// P6, P7: all names in one chain, each link ahead of what enlarges it.
func TestChainAgainstTheOrder(t *testing.T) {
	for _, between := range []string{"%s=%s;", "(%[2]s){%[1]s=1;}"} {
		rules, list := "", ""
		for name := 'a'; name < 'z'; name++ {
			rules += fmt.Sprintf(between, string(name), string(name+1))
			list += string(name) + "d"
		}
		wantLabels(t, "?z:ACD;"+rules, list+"zd")
		wantLabels(t, rules+"^z:ACD=1;", list+"zd")
		checkAll(t, []want{{"?z:ACD;" + rules + ">ACD a;", api.OK, 0}, {"?z:ACD;>CD a;" + rules, api.ErrFlow, 7}, {"!a:-;" + rules + "^z:D=1;", api.ErrFlow, 5 + strings.IndexByte(rules, 'a')}})
	}
}

func letter(name int) string { return string(rune('a' + name)) }

func link(source *rand.Rand, from, to int) string {
	a, b := letter(from), letter(to)
	return []string{b + "=" + a + ";", b + "=1+" + a + ";", "(" + a + "){" + b + "=1;}", "(" + a + "){}{" + b + "=1;}", "*2{" + b + "=-" + a + ";}"}[source.Intn(5)]
}
