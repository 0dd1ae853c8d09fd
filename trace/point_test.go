package trace_test

import (
	"math"
	"strconv"
	"strings"
	"testing"

	"custos/api"
	"custos/trace"
)

const lastTime = 1 << 40

func num(n int64) api.Value { return api.Value{Kind: api.Int, N: n} }

func rat(n, d int64) api.Value { return api.Value{Kind: api.Rat, N: n, D: d} }

func str(s string) api.Value { return api.Value{Kind: api.Str, S: s} }

func event(name string, l ...api.Value) api.Event { return api.Event{Name: name, Args: l} }

func at(time int64, l ...api.Event) api.Point { return api.Point{Time: time, Events: l} }

func repeated(n int, e api.Event) []api.Event {
	var l []api.Event
	for range n {
		l = append(l, e)
	}
	return l
}

// reads asks for just this point.
func reads(t *testing.T, line string, want api.Point) {
	t.Helper()
	if p, e := trace.ParsePoint(line); e != api.OK || !alike(p, want) {
		t.Errorf("%.100q: %.100v, %d, want %.100v", line, p, e, want)
	}
}

// denies asks for an error, and no point beside it.
func denies(t *testing.T, line string, want api.Errno) {
	t.Helper()
	if p, e := trace.ParsePoint(line); e != want || !alike(p, api.Point{}) {
		t.Errorf("%.100q: %.100v, %d, want %d", line, p, e, want)
	}
}

// prints asks for a point's one text, and that it is read again.
func prints(t *testing.T, p api.Point, text string) {
	t.Helper()
	if s, e := trace.PrintPoint(p); s != text || e != api.OK {
		t.Errorf("%.100v: %.100q, %d, want %.100q", p, s, e, text)
	}
	reads(t, text, p)
}

// isMute asks for an error, and no text beside it.
func isMute(t *testing.T, p api.Point, want api.Errno) {
	t.Helper()
	if s, e := trace.PrintPoint(p); s != "" || e != want {
		t.Errorf("%.100v: %.100q, %d, want %d", p, s, e, want)
	}
}

func checks(t *testing.T, sig []api.Decl, p api.Point, want api.Errno) {
	t.Helper()
	if e := trace.CheckPoint(sig, p); e != want {
		t.Errorf("%.100v with %.100v: %d, want %d", sig, p, e, want)
	}
}

func someSig() []api.Decl {
	return decls(decl("p", api.Int), decl("q", api.Int, api.Str), decl("n"), decl("r", api.Rat), decl("int", 1, 2, 3, 1, 2, 3))
}

// valuesSaid are values of each kind, and their texts.
func valuesSaid() map[string]api.Value {
	return map[string]api.Value{
		"0": num(0), "-7": num(-7), "9223372036854775807": num(math.MaxInt64), "-9223372036854775808": num(math.MinInt64), "1099511627777": num(lastTime + 1),
		"0/1": rat(0, 1), "-3/1": rat(-3, 1), "1/2": rat(1, 2), "-9223372036854775808/9223372036854775807": rat(math.MinInt64, math.MaxInt64),
		`""`: str(""), `"x"`: str("x"), `"a b"`: str("a b"), `"\""`: str(`"`), `"\\"`: str(`\`), `"\\\"\\"`: str(`\"\`), `")"`: str(")"), `"(p 1)"`: str("(p 1)"), `"@5"`: str("@5"), `"not"`: str("not"),
		`"\x00\x0a\x09\x7f\x80\xff"`: str("\x00\n\t\x7f\x80\xff"), `"\xc3\xa9"`: str("é"),
		`"` + strings.Repeat("a", 64) + `"`: str(strings.Repeat("a", 64)), `"` + strings.Repeat(`\x01`, 64) + `"`: str(strings.Repeat("\x01", 64)),
	}
}

// valuesRefused are values that may not be, and value.Check's errors of them.
func valuesRefused() map[api.Value]api.Errno {
	return map[api.Value]api.Errno{
		{}: api.ErrKind, {Kind: 4}: api.ErrKind, {Kind: -1, N: 5}: api.ErrKind, {Kind: api.Int, N: 5, D: 1}: api.ErrKind, {Kind: api.Int, S: "a"}: api.ErrKind,
		rat(2, 4): api.ErrKind, rat(1, 0): api.ErrKind, rat(1, -2): api.ErrKind, {Kind: api.Rat, N: 1, D: 2, S: "a"}: api.ErrKind,
		{Kind: api.Str, S: "a", N: 1}: api.ErrKind, str(strings.Repeat("a", 65)): api.ErrLong, str(strings.Repeat("\x00", 300)): api.ErrLong,
	}
}

// TestPointExamples: the chapter's table.
func TestPointExamples(t *testing.T) {
	reads(t, `@5 (p 1 "x") (q)`, at(5, event("p", num(1), str("x")), event("q")))
	reads(t, " @0", at(0))
	reads(t, "@5(p)(p)", at(5, event("p"), event("p")))
	for _, s := range []string{"", "5", "@5 p", "@5 (p x)", "@5 (p", "@5 ()"} {
		denies(t, s, api.ErrParse)
	}
	denies(t, "@-1", api.ErrLex)
	sig := decls(decl("p", api.Int))
	checks(t, sig, at(0, event("p", str("a"))), api.ErrType)
	checks(t, sig, at(0, event("p", num(1), num(2))), api.ErrType)
	checks(t, sig, at(0, event("r")), api.ErrType)
	checks(t, sig, at(lastTime+1), api.ErrRange)
}

// TestTimes: P8.4 to P8.6, the times 0, 2^40 and those beside them.
func TestTimes(t *testing.T) {
	for _, n := range []int64{0, 1, 9, 10, 1234567, lastTime - 1, lastTime} {
		s := "@" + strconv.FormatInt(n, 10)
		prints(t, at(n), s)
		prints(t, at(n, event("p", num(1))), s+" (p 1)")
		checks(t, nil, at(n), api.OK)
		checks(t, someSig(), at(n, event("p", num(1))), api.OK)
	}
	for _, n := range []int64{-1, -2, lastTime + 1, -lastTime, math.MaxInt64, math.MinInt64, 1 << 41} {
		isMute(t, at(n), api.ErrRange)
		isMute(t, at(n, repeated(65, event(""))...), api.ErrRange)
		isMute(t, at(n, event("not", api.Value{})), api.ErrRange)
		checks(t, someSig(), at(n), api.ErrRange)
		checks(t, someSig(), at(n, repeated(65, event(""))...), api.ErrRange)
		checks(t, someSig(), at(n, event("zz", api.Value{})), api.ErrRange)
		denies(t, "@"+strconv.FormatInt(n, 10), api.ErrLex)
	}
	for _, s := range []string{"@", "@05", "@00", "@x", "@ 5", "@+5", "@1099511627777", "@99999999999999999999"} {
		denies(t, s, api.ErrLex)
		denies(t, s+" (p 1)", api.ErrLex)
	}
}

// TestEventsMany: P8.4 to P8.6, no events, 64 and 65.
func TestEventsMany(t *testing.T) {
	for n := range 70 {
		p, e := at(7, repeated(n, event("p", num(1)))...), api.OK
		if n > 64 {
			e = api.ErrMany
		}
		checks(t, someSig(), p, e)
		if n > 64 {
			isMute(t, p, e)
			denies(t, "@7"+strings.Repeat(" (p 1)", n), e)
			denies(t, "@7"+strings.Repeat("(p)", n), e)
			continue
		}
		prints(t, p, "@7"+strings.Repeat(" (p 1)", n))
		reads(t, "@7"+strings.Repeat("(p)", n), at(7, repeated(n, event("p"))...))
	}
}

// TestValues: P8.4 to P8.6, each kind of value, at each place of an event.
func TestValues(t *testing.T) {
	for s, v := range valuesSaid() {
		prints(t, at(5, event("p", v)), "@5 (p "+s+")")
		prints(t, at(5, event("q", num(1), v), event("n"), event("q", v, v, str(""))), "@5 (q 1 "+s+") (n) (q "+s+" "+s+` "")`)
		checks(t, decls(decl("p", v.Kind)), at(5, event("p", v)), api.OK)
		for kind := api.Int; kind <= api.Str; kind++ {
			if kind != v.Kind {
				checks(t, decls(decl("p", kind)), at(5, event("p", v)), api.ErrType)
				checks(t, decls(decl("p", v.Kind, kind)), at(5, event("p", v, v)), api.ErrType)
			}
		}
	}
	for b := range 256 {
		v := str(string([]byte{byte(b), 'a', byte(b)}))
		s, e := trace.PrintPoint(at(5, event("p", v)))
		if e != api.OK || strings.ContainsAny(s, "\n\x00\x7f\x80") {
			t.Error(b, s, e)
		}
		reads(t, s, at(5, event("p", v)))
	}
	for _, s := range []string{`"` + strings.Repeat("a", 65) + `"`, "9223372036854775808", "2/4", "05", "-0", `"\x41"`, `"a`, "1/0", `"`, `"\"`} {
		denies(t, "@5 (p "+s+")", api.ErrLex)
	}
	reads(t, "@5 (p 1 2 3 4 5 6 7 8)", at(5, event("p", num(1), num(2), num(3), num(4), num(5), num(6), num(7), num(8))))
}

// TestValuesRefused: P8.4, P8.6, the first value that may not be, in the first event that has one.
func TestValuesRefused(t *testing.T) {
	sig := decls(decl("p", 1), decl("q", 1, 1, 1), decl("n"))
	for v, e := range valuesRefused() {
		for _, p := range []api.Point{
			at(0, event("p", v)), at(0, event("q", num(1), v, num(1))), at(0, event("q", num(1), num(1), v)), at(0, event("n"), event("p", v)), at(0, event("p", num(1)), event("p", v), event("p", num(1))),
			at(0, event("n", v)), at(0, event("p", v, v)), at(0, event("zz", v)), at(0, event("p", str("a"), v)),
		} {
			checks(t, sig, p, e)
			isMute(t, p, e)
		}
		for w, f := range valuesRefused() {
			checks(t, sig, at(0, event("p", v, w)), e)
			isMute(t, at(0, event("p", num(1), w, v)), f)
			checks(t, sig, at(0, event("p", w), event("p", v)), f)
		}
		checks(t, sig, at(0, event("p", str("a")), event("p", v)), api.ErrType)
		checks(t, sig, at(0, event("zz"), event("p", v)), api.ErrType)
		checks(t, sig, at(0, event("p", v), event("zz")), e)
	}
}

// TestCheckPoint: P8.4, events that the signature has not, of another number of kinds, of a value of another kind.
func TestCheckPoint(t *testing.T) {
	sig := someSig()
	six := []api.Value{num(1), rat(1, 2), str("a"), num(2), rat(3, 1), str("")}
	for _, p := range []api.Point{
		at(0), at(0, event("p", num(1))), at(0, event("q", num(1), str("x"))), at(0, event("n")), at(0, event("r", rat(1, 2))), at(0, event("int", six...)),
		at(3, event("n"), event("n"), event("q", num(-1), str("")), event("p", num(5)), event("p", num(5))),
	} {
		checks(t, sig, p, api.OK)
	}
	for _, v := range []api.Event{
		event("zz"), event("zz", num(1)), event(""), event("not"), event("P", num(1)), event("pp", num(1)), event("p "), event("abcdefghij_123456"),
		event("p"), event("p", num(1), num(2)), event("n", num(1)), event("q", num(1)), event("q"), event("q", num(1), str("x"), str("x")), event("int", six[:5]...), event("int", append(six[:6:6], num(1))...),
		event("p", str("a")), event("p", rat(1, 1)), event("r", num(1)), event("q", str("x"), num(1)), event("q", num(1), num(1)), event("q", str("x"), str("x")), event("int", six[3], six[4], six[5], six[0], six[2], six[1]),
	} {
		checks(t, sig, at(0, v), api.ErrType)
		checks(t, sig, at(0, event("n"), v), api.ErrType)
		checks(t, sig, at(0, v, event("p", num(1))), api.ErrType)
		checks(t, nil, at(0, v), api.ErrType)
	}
	checks(t, nil, at(0), api.OK)
	checks(t, many(32), at(0, event("bf")), api.OK)
	checks(t, many(31), at(0, event("bf")), api.ErrType)
}

// TestCheckPointOrder: P8.4, of several errors the first one counts.
func TestCheckPointOrder(t *testing.T) {
	sig := someSig()
	bad := event("zz", api.Value{})
	checks(t, make([]api.Decl, 33), at(-1, repeated(65, bad)...), api.ErrMany)
	checks(t, decls(decl("")), at(-1, repeated(65, bad)...), api.ErrArg)
	checks(t, decls(decl("p", 0)), at(-1, bad), api.ErrKind)
	checks(t, decls(decl("p"), decl("p")), at(0, event("p")), api.ErrArg)
	checks(t, sig, at(-1, repeated(65, bad)...), api.ErrRange)
	checks(t, sig, at(0, repeated(65, bad)...), api.ErrMany)
	checks(t, sig, at(0, repeated(65, event("zz"))...), api.ErrMany)
	checks(t, sig, at(0, repeated(64, bad)...), api.ErrKind)
	checks(t, sig, at(0, event("p", str(strings.Repeat("a", 65)), api.Value{}), event("zz")), api.ErrLong)
	checks(t, sig, at(0, event("p"), bad), api.ErrType)
	checks(t, sig, at(0, event("n"), bad, event("zz")), api.ErrKind)
}

// TestPrintPointOrder: P8.6, of several errors the first one counts; a name that is none comes ahead of its values, and how long the text is comes last.
func TestPrintPointOrder(t *testing.T) {
	wide := event("p", repeatedValue(64, str(strings.Repeat("\x00", 64)))...)
	for _, s := range append(wordsReserved(), "", "P", "_p", "0", "p q", "p)", "é", "abcdefghij_123456", "p\n") {
		isMute(t, at(0, event(s)), api.ErrArg)
		isMute(t, at(0, event(s, api.Value{})), api.ErrArg)
		isMute(t, at(0, event("n"), event(s), event("p", api.Value{})), api.ErrArg)
		isMute(t, at(0, event("p", api.Value{}), event(s)), api.ErrKind)
		isMute(t, at(0, wide, event(s)), api.ErrArg)
		isMute(t, at(0, repeated(65, event(s))...), api.ErrMany)
	}
	isMute(t, at(0, wide, event("p", api.Value{})), api.ErrKind)
	isMute(t, at(0, event("p", str(strings.Repeat("a", 65)))), api.ErrLong)
	isMute(t, at(0, wide), api.ErrLong)
	isMute(t, at(0, repeated(65, wide)...), api.ErrMany)
	prints(t, at(0, event("abcdefghij_12345"), event("int"), event("sum", num(1))), "@0 (abcdefghij_12345) (int) (sum 1)")
}

func repeatedValue(n int, v api.Value) []api.Value {
	var l []api.Value
	for range n {
		l = append(l, v)
	}
	return l
}

// wideTo is a point whose text has so many bytes, and that text.
func wideTo(size int) (api.Point, string) {
	const least, most = len(` (p "")`), 64
	p, text := at(7), "@7"
	events := (size - len(text) + least + most - 1) / (least + most)
	letters := size - len(text) - events*least
	for range events {
		s := strings.Repeat("a", min(letters, most))
		letters -= len(s)
		p.Events = append(p.Events, event("p", str(s)))
		text += ` (p "` + s + `")`
	}
	return p, text
}

// TestLineLong: P8.5, P8.6, P8.7, a line of MaxLine bytes and of one more, both read and printed.
func TestLineLong(t *testing.T) {
	for size := 4000; size <= 4200; size++ {
		p, text := wideTo(size)
		if len(text) != size {
			t.Fatal(size, len(text))
		}
		if size <= 4096 {
			prints(t, p, text)
			continue
		}
		isMute(t, p, api.ErrLong)
		denies(t, text, api.ErrLong)
	}
	room := strings.Repeat(" ", 4090)
	reads(t, "@5 (p)"+room, at(5, event("p")))
	reads(t, room+"@5 (p)", at(5, event("p")))
	reads(t, "@5"+room+" (p)", at(5, event("p")))
	denies(t, "@5 (p)"+room+" ", api.ErrLong)
	denies(t, room+" @5 (p)", api.ErrLong)
	denies(t, strings.Repeat(" ", 4096), api.ErrParse)
	for _, s := range []string{" ", "P", "(", "5", "@5", "\n", "(p)"} {
		denies(t, strings.Repeat(s, 4097), api.ErrLong)
	}
	denies(t, strings.Repeat("(p)", 1<<20), api.ErrLong)
	denies(t, strings.Repeat("P", 4096), api.ErrLex)
	denies(t, strings.Repeat("P", 16385), api.ErrLong)
	tight := "@5" + strings.Repeat("(p"+strings.Repeat(`""`, 30)+")", 64)
	if p, e := trace.ParsePoint(tight); e != api.OK {
		t.Error(e)
	} else {
		isMute(t, p, api.ErrLong)
	}
}

// TestMisplaced: P8.5, no time, something else than events behind it, events that do not end.
func TestMisplaced(t *testing.T) {
	for _, s := range []string{
		" ", "\n", "p", "(p)", "(p) @5", "(@5)", "5 (p)", "\"@5\"", "[0,5]", "= @5", "p @5",
		"@5 @6", "@5 @5 (p)", "@5 6", "@5 x", "@5 )", "@5 [0,1]", "@5 =", "@5 \"x\"", "@5 (p) p", "@5 (p) )", "@5 (p) @6", "@5 (p))", "@5 (p) 6", "@5 not",
		"@5 (", "@5 (p 1", "@5 (p 1 2", "@5 (p) (", "@5 (p) (q", "@5 (p) (q \"x\"", "@5 (p (q))", "@5 (p (q)", "@5 ((p))", "@5 (p @6)", "@5 (p 1 @6)", "@5 (p [0,1])", "@5 (p = 1)", "@5 (p -)", "@5 (p 1 x)", "@5 (p true)", "@5 (p (+ 1 1))",
		"@5 (5)", "@5 (\"p\")", "@5 (\"p\" 1)", "@5 (@6)", "@5 (=)", "@5 (= 1 1)", "@5 (()", "@5 ())", "@5 ([0,1])", "@5 (-5)", "@5 (1/2 p)", "@5 (p)()", "@5 (p) ( )",
	} {
		denies(t, s, api.ErrParse)
	}
	for _, s := range wordsReserved() {
		denies(t, s, api.ErrParse)
		denies(t, "@5 ("+s+")", api.ErrParse)
		denies(t, "@5 (p) ("+s+" 1)", api.ErrParse)
		denies(t, "@5 (p "+s+")", api.ErrParse)
	}
	for _, s := range []string{"P", "@5 P", "@5 (P)", "@5 (p 1.5)", "@5 (p \"a)", "@5 (p) (q \x00)", "@5;", "\t@5", "@5\r", "@5 (abcdefghij_123456)", "@5 > 6"} {
		denies(t, s, api.ErrLex)
	}
}

// TestParsePointOrder: P8.5, of several errors the first one counts.
func TestParsePointOrder(t *testing.T) {
	lots := strings.Repeat("(p)", 65)
	denies(t, "P"+strings.Repeat(" ", 4096), api.ErrLong)
	denies(t, "5"+strings.Repeat("(p)", 1400), api.ErrLong)
	denies(t, "5 (x P", api.ErrLex)
	denies(t, "@5"+lots+"P", api.ErrLex)
	denies(t, lots, api.ErrParse)
	denies(t, "5"+lots, api.ErrParse)
	denies(t, "@5"+lots+"(", api.ErrParse)
	denies(t, "@5"+lots+")", api.ErrParse)
	denies(t, "@5"+lots+"(p", api.ErrParse)
	denies(t, "@5"+lots+"(p x)", api.ErrParse)
	denies(t, "@5"+lots+"@5", api.ErrParse)
	denies(t, "@5(not)"+lots, api.ErrParse)
	denies(t, "@5"+lots, api.ErrMany)
}

// TestBlanks: P8.5, blanks and line ends wherever two tokens meet; names like kinds' words.
func TestBlanks(t *testing.T) {
	want := at(12, event("p", num(1), str("x y"), rat(1, 2)), event("int"), event("str", num(-1)))
	for _, s := range []string{
		`@12 (p 1 "x y" 1/2) (int) (str -1)`, `@12(p 1"x y"1/2)(int)(str-1)`, `  @12  ( p  1   "x y" 1/2 ) ( int )(  str  -1  )  `, "\n@12\n(\np\n1\"x y\"\n1/2\n)(int)\n(str\n-1)\n",
	} {
		reads(t, s, want)
	}
	reads(t, "@5(p-5-6)", at(5, event("p", num(-5), num(-6))))
	reads(t, `@5(p"""")`, at(5, event("p", str(""), str(""))))
}
