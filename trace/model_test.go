package trace_test

import (
	"fmt"
	"reflect"
	"regexp"
	"slices"
	"strings"
	"testing"
	"unsafe"

	"custos/api"
	"custos/ast"
	"custos/lex"
	"custos/trace"
	"custos/value"
)

// stream is a row of numbers that look like chance and are the same each time.
type stream uint64

func (s *stream) next() uint64 {
	x := uint64(*s)
	x ^= x << 13
	x ^= x >> 7
	x ^= x << 17
	*s = stream(x)
	return x
}

func (s *stream) below(n int) int { return int(s.next() % uint64(n)) }

func pick[T any](s *stream, l ...T) T { return l[s.below(len(l))] }

// alike is the same field by field, nil lists and empty ones alike.
func alike(a, b any) bool { return alikeValues(reflect.ValueOf(a), reflect.ValueOf(b)) }

func alikeValues(a, b reflect.Value) bool {
	switch a.Kind() {
	case reflect.Struct:
		for i := range a.NumField() {
			if !alikeValues(a.Field(i), b.Field(i)) {
				return false
			}
		}
		return true
	case reflect.Slice:
		if a.Len() != b.Len() {
			return false
		}
		for i := range a.Len() {
			if !alikeValues(a.Index(i), b.Index(i)) {
				return false
			}
		}
		return true
	}
	return a.Equal(b)
}

var (
	pointForm = regexp.MustCompile(`^T(\(nv*\))*$`)
	eventForm = regexp.MustCompile(`\(nv*\)`)
	declForm  = regexp.MustCompile(`^([a-z][a-z0-9_]*)(( (int|rat|str))*)$`)
)

// letters tells tokens by one letter each.
func letters(l []lex.Token) string {
	var b strings.Builder
	for _, k := range l {
		switch {
		case k.Kind == 1 || k.Kind == 2:
			b.WriteString(k.Text)
		case k.Kind == 3 && ast.Name(k.Text):
			b.WriteByte('n')
		case k.Kind == 6:
			b.WriteByte('v')
		case k.Kind == 7:
			b.WriteByte('T')
		default:
			b.WriteByte('o')
		}
	}
	return b.String()
}

// pointMeant is what P8.5 says of a line, whose form is seen in the letters of its tokens.
func pointMeant(line string) (api.Point, api.Errno) {
	if len(line) > 4096 {
		return api.Point{}, api.ErrLong
	}
	l, e, _ := lex.Tokens(line)
	if e != api.OK {
		return api.Point{}, api.ErrLex
	}
	form := letters(l)
	if !pointForm.MatchString(form) {
		return api.Point{}, api.ErrParse
	}
	p := at(l[0].Value.N)
	for _, ends := range eventForm.FindAllStringIndex(form, -1) {
		v := event(l[ends[0]+1].Text)
		for _, k := range l[ends[0]+2 : ends[1]-1] {
			v.Args = append(v.Args, k.Value)
		}
		p.Events = append(p.Events, v)
	}
	if len(p.Events) > 64 {
		return api.Point{}, api.ErrMany
	}
	return p, api.OK
}

// signatureMeant is what P8.3 says of a text, whose lines are seen as their tokens with one blank between.
func signatureMeant(s string) ([]api.Decl, api.Wrong) {
	if len(s) > 16384 {
		return nil, api.Wrong{E: api.ErrLong}
	}
	var sig []api.Decl
	for line := 1; s != ""; line++ {
		one, rest, _ := strings.Cut(s, "\n")
		s = rest
		d, e := lineMeant(one)
		switch {
		case e == api.OK && d.Name == "":
			continue
		case e == api.OK && (len(d.Kinds) > 6 || len(sig) > 31):
			e = api.ErrMany
		case e == api.OK && slices.ContainsFunc(sig, func(other api.Decl) bool { return other.Name == d.Name }):
			e = api.ErrArg
		}
		if e != api.OK {
			return nil, api.Wrong{E: e, Line: line}
		}
		sig = append(sig, d)
	}
	return sig, api.Wrong{}
}

func lineMeant(line string) (api.Decl, api.Errno) {
	if len(line) > 4096 {
		return api.Decl{}, api.ErrLong
	}
	l, e, _ := lex.Tokens(line)
	if e != api.OK {
		return api.Decl{}, api.ErrLex
	}
	var words []string
	for _, k := range l {
		words = append(words, k.Text)
	}
	if len(words) == 0 {
		return api.Decl{}, api.OK
	}
	m := declForm.FindStringSubmatch(strings.Join(words, " "))
	if m == nil || !ast.Name(m[1]) {
		return api.Decl{}, api.ErrParse
	}
	d := decl(m[1])
	for _, word := range strings.Fields(m[2]) {
		d.Kinds = append(d.Kinds, map[string]int{"int": 1, "rat": 2, "str": 3}[word])
	}
	return d, api.OK
}

func sameSignature(t *testing.T, s string) bool {
	t.Helper()
	want, wantWrong := signatureMeant(s)
	if got, w := trace.ParseSignature(s); w != wantWrong || !alike(got, want) {
		t.Errorf("%q: %v, %v, want %v, %v", s, got, w, want, wantWrong)
		return false
	}
	return true
}

func samePoint(t *testing.T, line string) bool {
	t.Helper()
	want, wantE := pointMeant(line)
	if got, e := trace.ParsePoint(line); e != wantE || !alike(got, want) {
		t.Errorf("%q: %v, %d, want %v, %d", line, got, e, want, wantE)
		return false
	}
	return true
}

// TestAllShort: P8.3, P8.5, all rows of up to six of the tokens that count, as a point and as a signature.
func TestAllShort(t *testing.T) {
	var longer func(s, between string, left int, pieces []string, same func(*testing.T, string) bool) bool
	longer = func(s, between string, left int, pieces []string, same func(*testing.T, string) bool) bool {
		if !same(t, s) {
			return false
		}
		for _, k := range pieces {
			if left > 0 && !longer(s+between+k, between, left-1, pieces, same) {
				return false
			}
		}
		return true
	}
	longer("", "", 6, []string{"@5", "(", ")", "p", "not", "7", `"x"`, "="}, samePoint)
	longer("@5", " ", 6, []string{"@6", "(", ")", "q", "1/2", "any"}, samePoint)
	longer("", " ", 5, []string{"p", "q", "int", "rat", "\n", "not", "7", "P"}, sameSignature)
	longer("", "\n", 5, []string{"p", "q int", "  ", "str rat", "rat str\n", "p rat", "not", "p p", "*"}, sameSignature)
}

func (s *stream) text() string {
	b := make([]byte, pick(s, 0, 1, 3, 20, 64))
	for i := range b {
		b[i] = pick(s, byte('a'), '"', '\\', ' ', ')', '\n', byte(s.next()))
	}
	return string(b)
}

func (s *stream) value() api.Value {
	switch s.below(3) {
	case 0:
		return num(int64(s.next()) >> s.below(64))
	case 1:
		d := int64(s.below(9)) + 1
		n := int64(s.below(1000)) - 500
		for k := d; k > 1; k-- {
			if n%k == 0 && d%k == 0 {
				n, d = n/k, d/k
			}
		}
		return rat(n, d)
	}
	return str(s.text())
}

func (s *stream) name() string {
	return pick(s, "p", "q", "int", "rat", "str", "abcdefghij_12345", "z0", "n_", "cnt", "x"+string(rune('a'+s.below(26))))
}

func (s *stream) signature() []api.Decl {
	var sig []api.Decl
	for range pick(s, 0, 1, 2, 5, 40) {
		name := s.name()
		if slices.ContainsFunc(sig, func(d api.Decl) bool { return d.Name == name }) || len(sig) == 32 {
			continue
		}
		d := decl(name)
		for range s.below(7) {
			d.Kinds = append(d.Kinds, s.below(3)+1)
		}
		sig = append(sig, d)
	}
	return sig
}

func (s *stream) point() api.Point {
	p := at(pick(s, 0, 1, lastTime, int64(s.below(lastTime+1))))
	for range pick(s, 0, 1, 2, 5, 64) {
		v := event(s.name())
		for range s.below(7) {
			v.Args = append(v.Args, s.value())
		}
		p.Events = append(p.Events, v)
	}
	return p
}

// fitting is a point whose events the signature has.
func (s *stream) fitting(sig []api.Decl) api.Point {
	p := at(int64(s.below(lastTime + 1)))
	for len(sig) > 0 && s.below(4) > 0 && len(p.Events) < 64 {
		d := pick(s, sig...)
		v := event(d.Name)
		for _, kind := range d.Kinds {
			one := s.value()
			for one.Kind != kind {
				one = s.value()
			}
			v.Args = append(v.Args, one)
		}
		p.Events = append(p.Events, v)
	}
	return p
}

// pointText is the text that P8.6 says, built otherwise.
func pointText(p api.Point) string {
	l := []string{fmt.Sprintf("@%d", p.Time)}
	for _, v := range p.Events {
		words := []string{v.Name}
		for _, one := range v.Args {
			text, _ := value.Print(one)
			words = append(words, text)
		}
		l = append(l, "("+strings.Join(words, " ")+")")
	}
	return strings.Join(l, " ")
}

// TestMade: P8.2, P8.6, P8.7, what is printed is read as what it was.
func TestMade(t *testing.T) {
	s := stream(8)
	long := 0
	for range 3000 {
		sig := s.signature()
		text, e := trace.PrintSignature(sig)
		if e != api.OK || trace.CheckSignature(sig) != api.OK {
			t.Fatal(sig, e)
		}
		takes(t, text, sig...)
		takes(t, strings.TrimSuffix(text, "\n"), sig...)

		p := s.point()
		if want := pointText(p); len(want) > 4096 {
			isMute(t, p, api.ErrLong)
			long++
		} else {
			prints(t, p, want)
		}
	}
	if long < 100 {
		t.Error(long)
	}
}

// TestAgain: P8.7, what is read, from texts with blanks put in and taken out, is printed, and read again as the same.
func TestAgain(t *testing.T) {
	s := stream(9)
	for range 3000 {
		p := s.point()
		line := strings.NewReplacer(" (", pick(&s, "(", "  (", " ("), ") ", pick(&s, ")", ")   ")).Replace(pointText(p))
		got, e := trace.ParsePoint(line)
		if !samePoint(t, line) || e != api.OK {
			continue
		}
		text, e := trace.PrintPoint(got)
		if want := pointText(got); len(want) > 4096 && e != api.ErrLong || len(want) <= 4096 && text != want {
			t.Errorf("%q: %q, %d", line, text, e)
		}
		if e == api.OK {
			reads(t, text, got)
		}

		sig := s.signature()
		written, _ := trace.PrintSignature(sig)
		written = strings.NewReplacer("\n", pick(&s, "\n\n", " \n  ", "\n"), " ", pick(&s, "  ", " ")).Replace(written)
		if sameSignature(t, written) {
			takes(t, written, sig...)
		}
	}
}

// TestChanged: P8.3, P8.5, texts with a byte put in, taken out or put in another's place, and any bytes at all.
func TestChanged(t *testing.T) {
	s := stream(10)
	for range 4000 {
		sig, _ := trace.PrintSignature(s.signature())
		line := pointText(s.point())
		c := pick(&s, " ", "\n", "(", ")", "@", "p", "1", `"`, "int", "\n\n", string([]byte{byte(s.next())}))
		for _, text := range []string{sig, line} {
			i := s.below(len(text) + 1)
			k := min(i+s.below(3), len(text))
			changed := text[:i] + pick(&s, c, "") + text[k:]
			if !samePoint(t, changed) || !sameSignature(t, changed) {
				return
			}
		}
		var b []byte
		for range s.below(12) {
			b = append(b, byte(s.next()))
		}
		samePoint(t, string(b))
		sameSignature(t, string(b))
	}
}

// TestMoreDecls: P8.8, what fits a signature fits it with any declarations more, wherever they stand.
func TestMoreDecls(t *testing.T) {
	s := stream(11)
	grown := 0
	for range 3000 {
		sig := s.signature()
		p := s.fitting(sig)
		checks(t, sig, p, api.OK)
		for range 3 {
			i := s.below(len(sig) + 1)
			more := slices.Concat(sig[:i], s.signature(), sig[i:])
			if trace.CheckSignature(more) == api.OK {
				checks(t, more, p, api.OK)
				grown++
			}
		}
		if len(p.Events) > 0 {
			i := slices.IndexFunc(sig, func(d api.Decl) bool { return d.Name == p.Events[0].Name })
			checks(t, slices.Delete(slices.Clone(sig), i, i+1), p, api.ErrType)
		}
	}
	if grown < 1000 {
		t.Error(grown)
	}
}

// places are those of all memory that a value reaches, spare room and texts with it, a list of them for each list or text.
func places(v reflect.Value, l [][2]uintptr) [][2]uintptr {
	switch v.Kind() {
	case reflect.Struct:
		for i := range v.NumField() {
			l = places(v.Field(i), l)
		}
	case reflect.Slice:
		if v.Cap() > 0 {
			l = append(l, [2]uintptr{v.Pointer(), v.Pointer() + uintptr(v.Cap())*v.Type().Elem().Size()})
		}
		for i := range v.Len() {
			l = places(v.Index(i), l)
		}
	case reflect.String:
		if s := v.String(); s != "" {
			from := uintptr(unsafe.Pointer(unsafe.StringData(s)))
			l = append(l, [2]uintptr{from, from + uintptr(len(s))})
		}
	}
	return l
}

func meet(a, b [2]uintptr) bool { return a[0] < b[1] && b[0] < a[1] }

// isNew asks that an answer shares nothing with an argument, nor within itself.
func isNew(t *testing.T, argument, answer any) {
	t.Helper()
	ours, theirs := places(reflect.ValueOf(answer), nil), places(reflect.ValueOf(argument), nil)
	for i, a := range ours {
		if slices.ContainsFunc(theirs, func(b [2]uintptr) bool { return meet(a, b) }) {
			t.Fatal("shares with an argument", answer)
		}
		if slices.ContainsFunc(ours[:i], func(b [2]uintptr) bool { return meet(a, b) }) {
			t.Fatal("shares within itself", answer)
		}
	}
}

// roomy is the list with something in the spare room behind it.
func roomy[T any](l []T, more T) []T { return append(slices.Grow(slices.Clip(l), 2), more)[:len(l)] }

// TestMemory: R4, what is handed in stays as it is, with its spare room; what is answered is new.
func TestMemory(t *testing.T) {
	s := stream(12)
	for range 500 {
		sig, p := roomy(s.signature(), decl("spare")), s.point()
		for i := range sig {
			sig[i].Kinds = roomy(sig[i].Kinds, 77)
		}
		p.Events = roomy(p.Events, event("spare"))
		for i := range p.Events {
			p.Events[i].Args = roomy(p.Events[i].Args, num(77))
		}
		same := fmt.Sprint(sig[:len(sig)+1], p.Events[:len(p.Events)+1])
		text, _ := trace.PrintSignature(sig)
		line, _ := trace.PrintPoint(p)
		trace.CheckPoint(sig, p)
		isNew(t, sig, text)
		isNew(t, p, line)
		if now := fmt.Sprint(sig[:len(sig)+1], p.Events[:len(p.Events)+1]); now != same {
			t.Fatal(now, same)
		}
		for i := range sig {
			if sig[i].Kinds[:len(sig[i].Kinds)+1][len(sig[i].Kinds)] != 77 {
				t.Fatal(sig)
			}
		}
		for _, v := range p.Events {
			if v.Args[:len(v.Args)+1][len(v.Args)] != num(77) {
				t.Fatal(v)
			}
		}
		readSig, _ := trace.ParseSignature(text)
		readP, _ := trace.ParsePoint(line)
		isNew(t, text, readSig)
		isNew(t, line, readP)
	}
}

// TestOneAnswer: R5, a call answers the same whatever was asked ahead of it.
func TestOneAnswer(t *testing.T) {
	s := stream(13)
	for range 300 {
		sig, p := s.signature(), s.point()
		text, _ := trace.PrintSignature(sig)
		line, _ := trace.PrintPoint(p)
		e := trace.CheckPoint(sig, p)
		trace.ParseSignature("p\np")
		trace.ParsePoint("@5 (")
		trace.CheckPoint(decls(decl("")), at(-1))
		again, _ := trace.PrintSignature(sig)
		lineAgain, _ := trace.PrintPoint(p)
		if again != text || lineAgain != line || trace.CheckPoint(sig, p) != e {
			t.Fatal(sig, p)
		}
	}
}

// TestGreat: R1, R6, great arguments are answered, and in time.
func TestGreat(t *testing.T) {
	values := repeatedValue(1<<20, num(1))
	p := at(0, event("p", values...))
	isMute(t, p, api.ErrLong)
	checks(t, someSig(), p, api.ErrType)
	values[len(values)-1] = api.Value{}
	isMute(t, p, api.ErrKind)
	checks(t, someSig(), p, api.ErrKind)
	checks(t, decls(decl("p", make([]int, 1<<20)...)), p, api.ErrMany)
	checks(t, make([]api.Decl, 1<<20), p, api.ErrMany)
	isMute(t, at(0, make([]api.Event, 1<<20)...), api.ErrMany)
	isMute(t, at(0, event(strings.Repeat("p", 1<<24))), api.ErrArg)
	fits(t, decls(decl(strings.Repeat("p", 1<<24))), api.ErrArg)
	denies(t, strings.Repeat("@5", 1<<24), api.ErrLong)
	refuses(t, strings.Repeat("\n", 1<<24), api.ErrLong, 0)
}

// TestExamplesOfTheWhole: the document's own lines of a signature and of a log.
func TestExamplesOfTheWhole(t *testing.T) {
	sig, w := trace.ParseSignature("p int\nq int str\n")
	if w != (api.Wrong{}) {
		t.Fatal(w)
	}
	for line, want := range map[string]api.Errno{
		`@5 (p 1) (q 2 "x")`: api.OK, "@0 (p 1) (p 2)": api.OK, "@1": api.OK, "@0 (p 9223372036854775807)": api.OK, `@0 (q 1 "a") (q 1 "b")`: api.OK,
		`@0 (p "a")`: api.ErrType, `@5 (p 1 "x") (q)`: api.ErrType,
	} {
		p, e := trace.ParsePoint(line)
		if e != api.OK {
			t.Error(line, e)
		}
		checks(t, sig, p, want)
	}
	denies(t, "@5 (p", api.ErrParse)
}
