package syntax_test

import (
	"reflect"
	"slices"
	"strings"
	"testing"
	"unsafe"

	"custos/api"
	"custos/ast"
	"custos/lex"
	"custos/syntax"
	"custos/value"
)

// stream is a row of numbers that look like chance and are the same each time.
type stream uint64

func (s *stream) next() uint64 {
	x := uint64(*s)
	x ^= x << 13
	x ^= x >> 7
	x ^= x << 17
	*s = stream(x)
	return x
}

func (s *stream) below(n int) int { return int(s.next() % uint64(n)) }

func pick[T any](r *stream, l ...T) T { return l[r.below(len(l))] }

// alike is the same field by field, nil lists and empty ones alike.
func alike(a, b any) bool { return alikeValues(reflect.ValueOf(a), reflect.ValueOf(b)) }

func alikeValues(a, b reflect.Value) bool {
	switch a.Kind() {
	case reflect.Struct:
		for i := range a.NumField() {
			if !alikeValues(a.Field(i), b.Field(i)) {
				return false
			}
		}
		return true
	case reflect.Slice:
		if a.Len() != b.Len() {
			return false
		}
		for i := range a.Len() {
			if !alikeValues(a.Index(i), b.Index(i)) {
				return false
			}
		}
		return true
	}
	return a.Equal(b)
}

// tables are what must follow a head, by letters: F a formula, T a term, R a regex, V a list of variables, I an interval, N a name, O an operation; of f, t and n: such ones up to a bracket, that with them.
func tables(sort byte) map[string]string {
	switch sort {
	case 'T':
		return map[string]string{"+": "TT)", "-": "TT)", "*": "TT)"}
	case 'R':
		return map[string]string{"test": "F)", "alt": "RR)", "seq": "RR)", "star": "R)"}
	}
	m := map[string]string{"not": "F)", "and": "FF)", "or": "FF)", "join": "Ff", "exists": "VF)", "agg": "NONVF)"}
	for _, s := range []string{"=", "<", "<="} {
		m[s] = "TT)"
	}
	for _, s := range []string{"prev", "next", "once", "soon"} {
		m[s] = "IF)"
	}
	for _, s := range []string{"since", "until"} {
		m[s] = "IFF)"
	}
	for _, s := range []string{"before", "after"} {
		m[s] = "IR)"
	}
	for _, s := range []string{"let", "letpast"} {
		m[s] = "NVFF)"
	}
	return m
}

// need is one of these letters, and the depth at which it stands; of a head the letter of its sort.
type need struct {
	what  byte
	depth int
	head  bool
}

// needs are what must come, the next one last.
type needs []need

func (l *needs) push(letters string, depth int) {
	for _, c := range slices.Backward([]byte(letters)) {
		*l = append(*l, need{what: c, depth: depth})
	}
}

func isName(k lex.Token) bool { return k.Kind == 3 && !slices.Contains(reserved(), k.Text) }

// stands alone is of what begins and ends with one token.
func standsAlone(sort byte, k lex.Token) bool {
	switch sort {
	case 'F':
		return k.Text == "true" || k.Text == "false"
	case 'R':
		return k.Text == "any"
	}
	return isName(k) || k.Kind == 6
}

// take takes a token, or tells why it can't stand there.
func (l *needs) take(k lex.Token) api.Errno {
	if len(*l) == 0 {
		return api.ErrParse
	}
	n := (*l)[len(*l)-1]
	*l = (*l)[:len(*l)-1]
	if n.head {
		return l.takeHead(n, k)
	}
	can := false
	switch n.what {
	case 'F', 'T', 'R':
		return l.takeFirst(n, k)
	case 'f', 't', 'n':
		if k.Kind == 2 {
			return api.OK
		}
		l.push(strings.ToUpper(string(n.what))+string(n.what), n.depth)
		return l.take(k)
	case 'V':
		l.push("n", n.depth)
		can = k.Kind == 1
	case 'N':
		can = isName(k)
	case 'I':
		can = k.Kind == 5
	case 'O':
		can = slices.Contains([]string{"sum", "cnt", "min", "max", "avg", "med"}, k.Text)
	case ')':
		can = k.Kind == 2
	}
	if !can {
		return api.ErrParse
	}
	return api.OK
}

func (l *needs) takeFirst(n need, k lex.Token) api.Errno {
	if n.depth > 24 {
		return api.ErrDeep
	}
	if standsAlone(n.what, k) {
		return api.OK
	}
	if k.Kind != 1 {
		return api.ErrParse
	}
	*l = append(*l, need{n.what, n.depth, true})
	return api.OK
}

func (l *needs) takeHead(n need, k lex.Token) api.Errno {
	follows, ok := tables(n.what)[k.Text]
	if n.what == 'F' && isName(k) {
		follows, ok = "t", true
	}
	if !ok {
		return api.ErrParse
	}
	l.push(follows, n.depth+1)
	return api.OK
}

// meantFault is P7.2 word by word: what is wrong with a text's tokens, and where.
func meantFault(s string) (api.Errno, int) {
	tokens, e, at := lex.Tokens(s)
	if e != api.OK {
		return e, at
	}
	var l needs
	l.push("F", 1)
	for _, k := range tokens {
		if e := l.take(k); e != api.OK {
			return e, k.At
		}
	}
	if len(l) > 0 {
		return api.ErrParse, len(s)
	}
	return api.OK, 0
}

// tree is a token, or what stands within a bracket.
type tree struct {
	lex.Token
	within []tree
}

// grown is the trees up to a closing bracket or the end, and the tokens behind.
func grown(l []lex.Token) ([]tree, []lex.Token) {
	var all []tree
	for len(l) > 0 {
		k := l[0]
		l = l[1:]
		switch k.Kind {
		case 1:
			var inner []tree
			inner, l = grown(l)
			all = append(all, tree{k, inner})
		case 2:
			return all, l
		default:
			all = append(all, tree{Token: k})
		}
	}
	return all, nil
}

func kindOf(word string) int {
	return slices.Index(strings.Fields("- true false - = < <= not and or exists prev next once soon since until before after agg let letpast join"), word)
}

func meantNames(l []tree) []string {
	var all []string
	for _, x := range l {
		all = append(all, x.Text)
	}
	return all
}

func meantAll[T any](l []tree, one func(tree) T) []T {
	var all []T
	for _, x := range l {
		all = append(all, one(x))
	}
	return all
}

// meantFormula is what a tree says in which nothing is wrong.
func meantFormula(x tree) formula {
	if len(x.within) == 0 {
		return formula{Kind: kindOf(x.Text)}
	}
	head, l := x.within[0], x.within[1:]
	f := formula{Kind: kindOf(head.Text)}
	switch head.Text {
	case "=", "<", "<=":
		f.Terms = meantAll(l, meantTerm)
		return f
	case "agg":
		f.Name, f.Op = l[0].Text, 1+slices.Index([]string{"sum", "cnt", "min", "max", "avg", "med"}, l[1].Text)
		f.Vars = append(meantNames(l[2:3]), meantNames(l[3].within)...)
		l = l[4:]
	case "let", "letpast":
		f.Name, f.Vars = l[0].Text, meantNames(l[1].within)
		l = l[2:]
	case "exists":
		f.Vars = meantNames(l[0].within)
		l = l[1:]
	case "before", "after":
		return formula{Kind: f.Kind, I: meantInterval(l[0].Text), Regex: meantAll(l[1:], meantRegex)}
	case "prev", "next", "once", "soon", "since", "until":
		f.I = meantInterval(l[0].Text)
		l = l[1:]
	case "not", "and", "or", "join":
	default:
		return formula{Kind: api.Pred, Name: head.Text, Terms: meantAll(l, meantTerm)}
	}
	f.Subs = meantAll(l, meantFormula)
	return f
}

func meantTerm(x tree) api.Term {
	if len(x.within) > 0 {
		return api.Term{Kind: 3 + strings.Index("+-*", x.within[0].Text), Subs: meantAll(x.within[1:], meantTerm)}
	}
	if x.Kind == 6 {
		return api.Term{Kind: api.Const, Value: x.Value}
	}
	return api.Term{Kind: api.Var, Name: x.Text}
}

func meantRegex(x tree) api.Regex {
	if len(x.within) == 0 {
		return api.Regex{Kind: api.Any}
	}
	if x.within[0].Text == "test" {
		return api.Regex{Kind: api.Test, Test: meantAll(x.within[1:], meantFormula)}
	}
	return api.Regex{Kind: slices.Index([]string{"", "", "", "alt", "seq", "star"}, x.within[0].Text), Subs: meantAll(x.within[1:], meantRegex)}
}

func meantInterval(s string) api.Interval {
	l := strings.FieldsFunc(s, func(c rune) bool { return strings.ContainsRune("[],", c) })
	lo, _ := value.Parse(l[0])
	if l[1] == "*" {
		return api.Interval{Lo: lo.N, Open: true}
	}
	hi, _ := value.Parse(l[1])
	return api.Interval{Lo: lo.N, Hi: hi.N}
}

// asMeant asks for what the model says of a text.
func asMeant(t *testing.T, s string) api.Errno {
	t.Helper()
	e, at := meantFault(s)
	if e != api.OK {
		refuses(t, s, e, at)
		return e
	}
	l, _ := grown(cut(t, s))
	f := meantFormula(l[0])
	if e := ast.Check(f); e != api.OK {
		refuses(t, s, e, 0)
		return e
	}
	reads(t, s, f)
	return api.OK
}

func someTokens() []string {
	return []string{"(", ")", "x", "y", "p", "sum", "true", "false", "not", "and", "join", "exists", "once", "since", "before", "agg", "let", "any", "test", "seq", "star", "=", "<=", "+", "-", "5", "-5", "1/2", `"a"`, "[0,1]", "[2,*]", "@5"}
}

// TestEachPlace: P7.2, in each place of texts of all kinds each token: in another's place, between two, and one less.
func TestEachPlace(t *testing.T) {
	for _, c := range allSaid() {
		l := cut(t, c.text)
		for i := range len(l) + 1 {
			for _, s := range someTokens() {
				k := lex.Token{Text: s}
				asMeant(t, joined(slices.Insert(slices.Clone(l), i, k), " "))
				if i < len(l) {
					other := slices.Clone(l)
					other[i] = k
					asMeant(t, joined(other, " "))
				}
			}
			if i < len(l) {
				asMeant(t, joined(slices.Delete(slices.Clone(l), i, i+1), " "))
			}
		}
	}
}

// maker makes formulas by a stream.
type maker struct{ *stream }

func (m maker) name() string { return pick(m.stream, "x", "y", "z", "p", "sum", "x_1") }

func (m maker) names(n int) []string {
	l := []string{"x", "y", "z", "p", "sum", "x_1", "w"}
	for i := range l {
		j := i + m.below(len(l)-i)
		l[i], l[j] = l[j], l[i]
	}
	return l[:n]
}

func (m maker) interval() api.Interval {
	lo := pick(m.stream, int64(0), 1, 7, 1<<40)
	if m.below(3) == 0 {
		return from(lo)
	}
	return within(lo, pick(m.stream, lo, max(lo, 9), 1<<40))
}

func (m maker) constant() api.Term {
	bytes := make([]byte, m.below(5))
	for i := range bytes {
		bytes[i] = pick(m.stream, 'a', '"', '\\', byte(m.below(256)))
	}
	return pick(m.stream, num(int64(m.below(9))-4), num(int64(m.next())), rat(int64(m.below(9))-4, 1), rat(1, int64(1+m.below(9))), str(string(bytes)))
}

func (m maker) term(deep int) api.Term {
	if deep > 0 && m.below(3) == 0 {
		return two(api.Add+m.below(3), m.term(deep-1), m.term(deep-1))
	}
	if m.below(3) == 0 {
		return m.constant()
	}
	return v(m.name())
}

func (m maker) terms(n int) []api.Term {
	var l []api.Term
	for range n {
		l = append(l, m.term(2))
	}
	return l
}

func (m maker) regex(deep int) api.Regex {
	if deep <= 0 {
		return anyStep()
	}
	switch m.below(5) {
	case 0, 1:
		return test(m.formula(deep - 1))
	case 2:
		return regex(pick(m.stream, api.Alt, api.Seq), m.regex(deep-1), m.regex(deep-1))
	case 3:
		return regex(api.Star, m.regex(deep-1))
	}
	return anyStep()
}

func (m maker) formulas(n, deep int) []formula {
	var l []formula
	for range n {
		l = append(l, m.formula(deep))
	}
	return l
}

func (m maker) formula(deep int) formula {
	kind := api.True + m.below(6)
	if deep > 0 {
		kind = api.True + m.below(22)
	}
	switch kind {
	case api.True, api.False:
		return of(kind)
	case api.Pred:
		return pred(m.name(), m.terms(m.below(5))...)
	case api.Equal, api.Less, api.AtMost:
		return formula{Kind: kind, Terms: m.terms(2)}
	case api.Not:
		return not(m.formula(deep - 1))
	case api.Exists:
		return exists(m.formula(deep-1), m.names(1+m.below(3))...)
	case api.Prev, api.Next, api.Once, api.Soon:
		return timed(kind, m.interval(), m.formula(deep-1))
	case api.Since, api.Until:
		return timed(kind, m.interval(), m.formulas(2, deep-1)...)
	case api.Before, api.After:
		return matched(kind, m.interval(), m.regex(deep))
	case api.Agg:
		l := m.names(2 + m.below(4))
		return agg(l[0], 1+m.below(6), m.formula(deep-1), l[1:]...)
	case api.Let, api.LetPast:
		return let(kind, m.name(), m.formula(deep-1), m.formula(deep-1), m.names(m.below(4))...)
	case api.Join:
		return of(kind, m.formulas(1+m.below(4), deep-1)...)
	}
	return of(kind, m.formulas(2, deep-1)...)
}

// blanks are at least so many blanks and line ends.
func (m maker) blanks(least int) string {
	var b strings.Builder
	for range least + m.below(3) {
		b.WriteString(pick(m.stream, " ", "\n"))
	}
	return b.String()
}

// TestMeant: P7.2, many texts, some of them spoilt token by token, against the promise's own words.
func TestMeant(t *testing.T) {
	r := stream(20261117)
	m := maker{&r}
	met := map[api.Errno]int{}
	for i := range 20000 {
		text, e := syntax.Print(m.formula(m.below(5)))
		if e != api.OK {
			continue
		}
		l := cut(t, text)
		for range min(i%4, 2) {
			l = m.spoil(l)
		}
		s := m.blanks(0)
		for _, k := range l {
			s += k.Text + m.blanks(1)
		}
		met[asMeant(t, s)]++
		if t.Failed() {
			t.FailNow()
		}
	}
	for _, e := range []api.Errno{api.OK, api.ErrParse, api.ErrArg, api.ErrVars} {
		if met[e] == 0 {
			t.Error(met)
		}
	}
}

// spoil puts a token in, takes one out, or puts another in its place, often one of the same kind.
func (m maker) spoil(l []lex.Token) []lex.Token {
	i := m.below(len(l) + 1)
	k := lex.Token{Text: pick(m.stream, someTokens()...)}
	l = slices.Clone(l)
	switch {
	case i == len(l) || m.below(4) == 0:
		return slices.Insert(l, i, k)
	case m.below(3) == 0 && len(l) > 1:
		return slices.Delete(l, i, i+1)
	case m.below(2) == 0:
		kind := l[i].Kind
		k = pick(m.stream, slices.DeleteFunc(slices.Clone(l), func(k lex.Token) bool { return k.Kind != kind })...)
	}
	l[i] = k
	return l
}

// TestDeepMeant: P7.2, texts that nest about as deep as may be, cut off and spoilt.
func TestDeepMeant(t *testing.T) {
	r := stream(24)
	m := maker{&r}
	heads := []string{"(not ", "(and true ", "(join (p) ", "(once [0,1] ", "(exists (x) ", "(before [0,1] (test ", "(after [0,*] (star (test ", "(let r () true ", "(agg n cnt x () "}
	met := map[api.Errno]int{}
	for range 6000 {
		s, depth := "", 1
		for most := 19 + m.below(6); depth < most; {
			i := m.below(len(heads))
			s += heads[i]
			depth++
			if i == 5 || i == 6 {
				depth += i - 4
			}
		}
		s += pick(&r, "true", "(p)", "(p x)", "(= 1 (+ 1 x))", ")", "x", "", "(p", "(= x)", "(before [0,1] any)")
		s += strings.Repeat(")", strings.Count(s, "(")-strings.Count(s, ")"))
		if m.below(3) == 0 {
			s = joined(m.spoil(cut(t, s)), " ")
		}
		met[asMeant(t, s)]++
		if t.Failed() {
			t.FailNow()
		}
	}
	for _, e := range []api.Errno{api.OK, api.ErrParse, api.ErrDeep} {
		if met[e] < 100 {
			t.Error(met)
		}
	}
}

// TestBack: P7.3, what is printed and read is the same; what is read, printed and read again too; unlike formulas have unlike texts.
func TestBack(t *testing.T) {
	r := stream(77)
	m := maker{&r}
	texts := map[string]formula{}
	for range 20000 {
		f := m.formula(m.below(6))
		s, e := syntax.Print(f)
		if want := ast.Check(f); e != want || want != api.OK && s != "" {
			t.Fatal(f, s, e, want)
		}
		if e != api.OK || len(s) > api.MaxFormula {
			continue
		}
		reads(t, s, f)
		if s != meantSpacing(t, s) || e != api.OK {
			t.Fatal(s)
		}
		g, _, _ := syntax.Parse(s)
		prints(t, g, s)
		if other, ok := texts[s]; ok && !ast.Same(other, f) {
			t.Fatal(f, other, s)
		}
		texts[s] = f
		if t.Failed() {
			t.FailNow()
		}
	}
	if len(texts) < 8000 {
		t.Error(len(texts))
	}
}

// meantSpacing is P7.1's: one blank between two tokens, but none behind ( and ahead of ).
func meantSpacing(t *testing.T, s string) string {
	t.Helper()
	l := cut(t, s)
	text := ""
	for i, k := range l {
		if i > 0 && l[i-1].Kind != 1 && k.Kind != 2 {
			text += " "
		}
		text += k.Text
	}
	return text
}

// TestUnlike: P7.3, formulas that differ in one thing have unlike texts, and none reads as another.
func TestUnlike(t *testing.T) {
	texts := map[string]int{}
	for i, c := range allSaid() {
		s, e := syntax.Print(c.f)
		if e != api.OK {
			t.Error(i, e)
		}
		texts[s]++
	}
	more := []formula{
		p("x", "y"), p("y", "x"), pred("p", str("x")), pred("p", num(1)), pred("p", rat(1, 1)), pred("p", str("1")), pred("p", str("1/1")), pred("p", str("x y")), pred("p", str("x"), str("y")), pred("p", str(`x" "y`)), pred("p", str(`x\" \"y`)), pred("p", num(-1), num(-1)), pred("p", two(api.Sub, num(1), num(-1))), pred("p", two(api.Sub, num(1), num(1))),
		timed(api.Once, from(1), yes()), timed(api.Once, within(1, 1), yes()), timed(api.Once, within(0, 1), yes()), timed(api.Soon, from(1), yes()),
		agg("x", 1, yes(), "y", "z"), agg("y", 1, yes(), "x", "z"), agg("x", 1, yes(), "y"), agg("x", 2, yes(), "y"), exists(yes(), "x", "y"), exists(yes(), "y", "x"),
		let(api.Let, "r", yes(), of(api.False)), let(api.Let, "r", of(api.False), yes()), let(api.LetPast, "r", yes(), of(api.False)), let(api.Let, "r", yes(), of(api.False), "r"),
		of(api.Join, yes(), yes()), of(api.Join, of(api.Join, yes()), yes()), of(api.And, yes(), yes()), of(api.Join, of(api.Join, yes(), yes())),
	}
	for _, f := range more {
		s, e := syntax.Print(f)
		if e != api.OK {
			t.Error(f, e)
		}
		texts[s]++
		reads(t, s, f)
	}
	if want := len(more) + len(allSaid()); len(texts) != want {
		t.Error(len(texts), want)
	}
}

// TestBlanks: P7.4, blanks and line ends between any two tokens, ahead of the first and behind the last one; none, where there need be none.
func TestBlanks(t *testing.T) {
	for _, c := range allSaid() {
		l := cut(t, c.text)
		for _, between := range []string{" ", "\n", "  ", " \n \n"} {
			reads(t, joined(l, between), c.f)
			reads(t, between+joined(l, between)+between, c.f)
			reads(t, between+c.text, c.f)
			reads(t, c.text+between, c.f)
			for i := range len(l) + 1 {
				reads(t, joined(l[:i], " ")+between+joined(l[i:], " "), c.f)
			}
		}
		for i := range len(l) + 1 {
			s := joined(l[:i], " ")
			refuses(t, s+" \t"+joined(l[i:], " "), api.ErrLex, len(s)+1)
			refuses(t, s+" \r\n"+joined(l[i:], " "), api.ErrLex, len(s)+1)
		}
		reads(t, tight(l), c.f)
	}
	reads(t, `(p x"a"-5 1/2(+ x-1)"b")`, pred("p", v("x"), str("a"), num(-5), rat(1, 2), two(api.Add, v("x"), num(-1)), str("b")))
	reads(t, `(p"b"y"")`, pred("p", str("b"), v("y"), str("")))
	reads(t, `(<=x-5)`, cmpOf(api.AtMost, v("x"), num(-5)))
	reads(t, `(<x(-x-1))`, cmpOf(api.Less, v("x"), two(api.Sub, v("x"), num(-1))))
	reads(t, `(=-5(--5-5))`, cmpOf(api.Equal, num(-5), two(api.Sub, num(-5), num(-5))))
	marked(t, `(p (!-5 x))`, api.ErrParse)
	marked(t, `(< !=x y)`, api.ErrParse)
}

// tight has blanks alone where two tokens would be another one without.
func tight(l []lex.Token) string {
	s := ""
	for i, k := range l {
		if i > 0 {
			two, e, _ := lex.Tokens(l[i-1].Text + k.Text)
			if e != api.OK || len(two) != 2 || two[0].Text != l[i-1].Text {
				s += " "
			}
		}
		s += k.Text
	}
	return s
}

// TestBlanksMove: P7.4, of a text that is wrong the place moves with the token, and nothing else changes.
func TestBlanksMove(t *testing.T) {
	for _, s := range []string{"(p x))", "(and true)", "(foo any)", "(= x)", "x", "(once (p))", "(not true", "(exists () true)", "(exists (x x) true)", "(p 1 2 3 4 5 6 7)", nested(24, "(not ", "true"), "(p [0,1])", "(agg n foo x () true)"} {
		l := cut(t, s)
		_, e, at := syntax.Parse(s)
		nth := slices.IndexFunc(l, func(k lex.Token) bool { return k.At == at })
		for _, between := range []string{" ", "\n \n", "   "} {
			moved := between
			place := 0
			for i, k := range l {
				if i == nth {
					place = len(moved)
				}
				moved += k.Text + between
			}
			if nth < 0 {
				place = len(moved)
			}
			if e != api.ErrParse && e != api.ErrDeep {
				place = 0
			}
			refuses(t, moved, e, place)
		}
	}
}

// shared tells whether two answers or arguments have memory in common, spare room too, and be it of a text.
func shared(a, b any) bool {
	mine := map[uintptr]int{}
	for _, at := range cells(reflect.ValueOf(a)) {
		mine[at] = 1
	}
	for _, at := range cells(reflect.ValueOf(b)) {
		if mine[at] > 0 {
			return true
		}
	}
	return false
}

// cells are the places of all things in lists, and of all bytes of texts.
func cells(v reflect.Value) []uintptr {
	var l []uintptr
	switch v.Kind() {
	case reflect.Struct:
		for i := range v.NumField() {
			l = append(l, cells(v.Field(i))...)
		}
	case reflect.Slice:
		whole := v.Slice3(0, v.Cap(), v.Cap())
		for i := range whole.Len() {
			l = append(l, whole.Index(i).Addr().Pointer())
			l = append(l, cells(whole.Index(i))...)
		}
	case reflect.String:
		for i := range v.Len() {
			l = append(l, uintptr(unsafe.Pointer(unsafe.StringData(v.String())))+uintptr(i))
		}
	}
	return l
}

// roomy is the formula with something in the spare room behind some of its lists.
func roomy(f formula) formula {
	f.Vars = append(append(make([]string, 0, len(f.Vars)+3), f.Vars...), "spare", "room")[:len(f.Vars)]
	f.Terms = append(append(make([]api.Term, 0, len(f.Terms)+3), f.Terms...), v("spare"))[:len(f.Terms)]
	var l []formula
	for _, g := range f.Subs {
		l = append(l, roomy(g))
	}
	f.Subs = append(append(make([]formula, 0, len(l)+3), l...), p("spare"))[:len(l)]
	f.Regex = append(append(make([]api.Regex, 0, len(f.Regex)+3), f.Regex...), anyStep())[:len(f.Regex)]
	return f
}

// opened is the formula with what stands behind its lists.
func opened(f formula) formula {
	f.Vars, f.Terms, f.Subs, f.Regex = f.Vars[:cap(f.Vars)], f.Terms[:cap(f.Terms)], slices.Clone(f.Subs[:cap(f.Subs)]), f.Regex[:cap(f.Regex)]
	for i := range f.Subs {
		f.Subs[i] = opened(f.Subs[i])
	}
	return f
}

// TestMemory: R4, what is handed in stays as it is, with its spare room; what is answered is new.
func TestMemory(t *testing.T) {
	for i, c := range append(allSaid(), said{formula{}, ""}, said{of(api.And, p("x")), "(p"}) {
		f := roomy(c.f)
		same, spare := ast.Clone(f), ast.Clone(opened(f))
		text := string([]byte(c.text))
		var answers []any
		for range 2 {
			s, _ := syntax.Print(f)
			g, _, _ := syntax.Parse(text)
			answers = append(answers, g)
			if shared(s, f) || shared(s, text) {
				t.Error(i, "a text that shares with an argument")
			}
		}
		if !alike(f, same) || !alike(opened(f), spare) || text != c.text {
			t.Error(i, "changed")
		}
		for j, a := range answers {
			if shared(a, text) || shared(a, f) {
				t.Error(i, j, "shares with an argument")
			}
			if l := cells(reflect.ValueOf(a)); len(slices.Compact(slices.Sorted(slices.Values(l)))) != len(l) {
				t.Error(i, j, "shares within itself")
			}
		}
		if shared(answers[0], answers[1]) {
			t.Error(i, "two answers share")
		}
	}
}

// TestOneAnswer: R5, whatever was asked before, and by how many at one time.
func TestOneAnswer(t *testing.T) {
	done := make(chan int)
	for range 8 {
		go func() {
			defer func() { done <- 1 }()
			for range 20 {
				for _, c := range allSaid() {
					both(t, c.f, c.text)
					refuses(t, c.text+")", api.ErrParse, len(c.text))
					refuses(t, c.text[:len(c.text)-1]+"?", api.ErrLex, len(c.text)-1)
				}
			}
		}()
	}
	for range 8 {
		<-done
	}
	f, _, _ := syntax.Parse("(exists (x) (p x y))")
	f.Vars[0] = "changed"
	f.Subs[0].Terms[0].Name = "changed"
	reads(t, "(exists (x) (p x y))", exists(p("x", "y"), "x"))
}

// TestGreat: R1, R6, texts and formulas as great as may be, and greater.
func TestGreat(t *testing.T) {
	const many = 1 << 16
	for _, head := range []string{"(", "(not ", "(before[0,1](test ", "(p(+ 1 ", "true ", ")", "[0,1]", `"`, "(join(", "(p"} {
		for _, size := range []int{api.MaxFormula, api.MaxFormula + 1, many, 1 << 20} {
			asMeant(t, strings.Repeat(head, size/len(head)+1)[:size])
		}
	}
	deep := nottedTimes(many, yes())
	broad := of(api.Join)
	s, r := v("x"), anyStep()
	for range many {
		broad.Subs = append(broad.Subs, yes())
		s = two(api.Add, s, num(1))
		r = regex(api.Star, r)
	}
	for i, f := range []formula{deep, pred("p", s), matched(api.Before, from(0), r), broad} {
		want := []api.Errno{api.ErrDeep, api.ErrDeep, api.ErrDeep, api.ErrMany}[i]
		if text, e := syntax.Print(f); text != "" || e != want {
			t.Error(i, len(text), e)
		}
	}
}
