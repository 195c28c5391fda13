package syntax

// Parse answers what stands in the text and true; or, if the text is not of the
// form of rules, false and the place of the first byte that cannot stand there
// (the text's length, if it ends too early).
//
// Each byte is looked at before it is taken, and is taken only if rules can go
// on from there: so the first that is refused is the first that cannot stand.
func Parse(text string) (Tree, int, bool) {
	r := reader{text: text}
	r.skipBlanks()
	heads := r.takeHeads()
	rules := r.takeRules()
	if r.bad {
		return Tree{}, r.at, false
	}
	return Tree{Heads: heads, Rules: rules}, 0, true
}

func (r *reader) takeHeads() []Head {
	var heads []Head
	for r.sees('?') || r.sees('!') {
		head := r.takeHead()
		heads = append(heads, head)
	}
	return heads
}

func (r *reader) takeHead() Head {
	var head Head
	head.Field = r.sees('?')
	if head.Field {
		r.take('?')
	} else {
		r.take('!')
	}
	head.Place = r.at
	head.Name = r.takeName()
	r.take(':')
	head.Label = r.takeLabel()
	r.take(';')
	return head
}

// takeRules reads rules up to the end of the text.
func (r *reader) takeRules() []Rule {
	var rules []Rule
	for !r.bad && !r.atEnd() {
		rule := r.takeRule()
		rules = append(rules, rule)
	}
	return rules
}

// takeBlock reads a block; at the text's end takeRule fails.
func (r *reader) takeBlock() []Rule {
	var rules []Rule
	r.takeOpening('{')
	for !r.bad && !r.sees('}') {
		rule := r.takeRule()
		rules = append(rules, rule)
	}
	r.takeClosing('}')
	return rules
}

func (r *reader) takeRule() Rule {
	switch {
	case r.seesOne('a', 'z'):
		return r.takeGiveRule()
	case r.sees('^'):
		return r.takeOpenRule()
	case r.sees('>'):
		return r.takeTellRule()
	case r.sees('('):
		return r.takeCondRule()
	case r.sees('*'):
		return r.takeLoopRule()
	}
	r.fail()
	return Rule{}
}

func (r *reader) takeGiveRule() Rule {
	rule := Rule{Kind: Give, Place: r.at}
	rule.Name = r.takeName()
	r.take('=')
	rule.Expr = r.takeExpr()
	r.take(';')
	return rule
}

func (r *reader) takeOpenRule() Rule {
	rule := Rule{Kind: Open, Place: r.at}
	r.take('^')
	rule.Name = r.takeName()
	r.take(':')
	rule.Label = r.takeLabel()
	r.take('=')
	rule.Expr = r.takeExpr()
	r.take(';')
	return rule
}

func (r *reader) takeTellRule() Rule {
	rule := Rule{Kind: Tell, Place: r.at}
	r.take('>')
	rule.Label = r.takeLabel()
	rule.Expr = r.takeExpr()
	r.take(';')
	return rule
}

func (r *reader) takeCondRule() Rule {
	rule := Rule{Kind: Cond, Place: r.at}
	r.takeOpening('(')
	rule.Expr = r.takeExpr()
	r.takeClosing(')')
	rule.First = r.takeBlock()
	if r.sees('{') {
		rule.Second = r.takeBlock()
	}
	return rule
}

func (r *reader) takeLoopRule() Rule {
	rule := Rule{Kind: Loop, Place: r.at}
	// The block must follow: without room for it not even the * can stand.
	r.needRoom()
	r.take('*')
	rule.Count = 1 + r.takeOne('1', '9')
	rule.First = r.takeBlock()
	return rule
}
