package trace_test

import (
	"slices"
	"strings"
	"testing"

	"custos/api"
	"custos/trace"
)

func decl(name string, kinds ...int) api.Decl { return api.Decl{Name: name, Kinds: kinds} }

func decls(l ...api.Decl) []api.Decl { return l }

// many are so many declarations, each of another name: aa, ab ..
func many(n int) []api.Decl {
	var l []api.Decl
	for i := range n {
		l = append(l, decl(string([]byte{'a' + byte(i/26), 'a' + byte(i%26)})))
	}
	return l
}

// lines are the texts of so many declarations, a line end behind each.
func lines(n int) string {
	var b strings.Builder
	for _, d := range many(n) {
		b.WriteString(d.Name + "\n")
	}
	return b.String()
}

// wordsReserved are those of the document that are no names.
func wordsReserved() []string {
	return []string{"true", "false", "not", "and", "or", "exists", "prev", "next", "once", "soon", "since", "until", "before", "after", "agg", "let", "letpast", "join", "any", "test", "alt", "seq", "star"}
}

// takes asks for just these declarations.
func takes(t *testing.T, s string, want ...api.Decl) {
	t.Helper()
	if sig, w := trace.ParseSignature(s); w != (api.Wrong{}) || !alike(sig, want) {
		t.Errorf("%.100q: %v, %v, want %v", s, sig, w, want)
	}
}

// refuses asks for an error, its line, and no declaration beside it.
func refuses(t *testing.T, s string, e api.Errno, line int) {
	t.Helper()
	if sig, w := trace.ParseSignature(s); w != (api.Wrong{E: e, Line: line}) || len(sig) != 0 {
		t.Errorf("%.100q: %v, %v, want %v", s, sig, w, api.Wrong{E: e, Line: line})
	}
}

// fits asks CheckSignature, and PrintSignature and CheckPoint, which begin with it.
func fits(t *testing.T, sig []api.Decl, e api.Errno) {
	t.Helper()
	if got := trace.CheckSignature(sig); got != e {
		t.Errorf("%.100v: %d, want %d", sig, got, e)
	}
	s, got := trace.PrintSignature(sig)
	if got != e || e != api.OK && s != "" {
		t.Errorf("%.100v: printed %q, %d, want %d", sig, s, got, e)
	}
	for _, p := range []api.Point{{}, {Time: -1}, {Events: make([]api.Event, 65)}, {Events: []api.Event{{Args: []api.Value{{}}}}}} {
		if got := trace.CheckPoint(sig, p); e != api.OK && got != e {
			t.Errorf("%.100v with %.100v: %d, want %d", sig, p, got, e)
		}
	}
}

// TestSignatureExamples: the chapter's table.
func TestSignatureExamples(t *testing.T) {
	takes(t, "p int\n\nq int str", decl("p", api.Int), decl("q", api.Int, api.Str))
	refuses(t, "p int\np", api.ErrArg, 2)
	refuses(t, "p Int", api.ErrLex, 1)
	takes(t, "p\nint int", decl("p"), decl("int", api.Int))
	refuses(t, "not", api.ErrParse, 1)
	refuses(t, "p foo", api.ErrParse, 1)
}

// TestCheckNames: P8.1, names that may be, at their limit too, and those that may not.
func TestCheckNames(t *testing.T) {
	for _, s := range []string{"p", "z", "p_", "p0", "abcdefghij_12345", "int", "rat", "str", "sum", "med", "nott", "an", "test_"} {
		fits(t, decls(decl(s)), api.OK)
		fits(t, decls(decl("q", api.Str), decl(s, api.Int)), api.OK)
	}
	wrong := append(wordsReserved(), "", " ", "P", "pQ", "_p", "0p", "5", "p q", "p ", " p", "p\n", "p-q", "p.", "é", "(", "\"p\"", "p\x00", "\xff", "abcdefghij_123456", strings.Repeat("p", 1000))
	for _, s := range wrong {
		fits(t, decls(decl(s)), api.ErrArg)
		fits(t, decls(decl("q", api.Str), decl(s, api.Int)), api.ErrArg)
	}
}

// TestCheckTwice: P8.1, one name twice, wherever it stands.
func TestCheckTwice(t *testing.T) {
	fits(t, decls(decl("p"), decl("p")), api.ErrArg)
	fits(t, decls(decl("p", api.Int), decl("p", api.Str)), api.ErrArg)
	fits(t, decls(decl("p"), decl("pp"), decl("p_")), api.OK)
	for i := range 32 {
		for k := range i {
			l := many(32)
			l[i].Name = l[k].Name
			fits(t, l, api.ErrArg)
		}
	}
}

// TestCheckMany: P8.1, no declarations, one, 32 and 33; no kinds, six and seven.
func TestCheckMany(t *testing.T) {
	fits(t, nil, api.OK)
	fits(t, decls(), api.OK)
	for n := range 33 {
		fits(t, many(n), api.OK)
	}
	for _, n := range []int{33, 34, 600} {
		fits(t, many(n), api.ErrMany)
	}
	for n := range 10 {
		e := api.OK
		if n > 6 {
			e = api.ErrMany
		}
		for _, kind := range []int{api.Int, api.Rat, api.Str} {
			fits(t, decls(decl("p", slices.Repeat([]int{kind}, n)...)), e)
			fits(t, decls(decl("q", kind), decl("p", slices.Repeat([]int{kind}, n)...)), e)
		}
	}
}

// TestCheckKinds: P8.1, kinds that are none, at each place.
func TestCheckKinds(t *testing.T) {
	for _, kind := range []int{0, 4, 5, -1, 1 << 40, -1 << 63, 1<<63 - 1} {
		for i := range 6 {
			kinds := []int{1, 2, 3, 1, 2, 3}
			kinds[i] = kind
			fits(t, decls(decl("p", kinds...)), api.ErrKind)
			fits(t, decls(decl("p", 1, 2, 3), decl("q", kinds[:i+1]...), decl("r")), api.ErrKind)
		}
	}
}

// TestCheckOrder: P8.1, of several errors the first one counts: of all declarations, then declaration by declaration.
func TestCheckOrder(t *testing.T) {
	seven, none := slices.Repeat([]int{0}, 7), []int{0}
	fits(t, make([]api.Decl, 33), api.ErrMany)
	fits(t, append(many(31), decl("aa"), decl("p", seven...)), api.ErrMany)
	fits(t, decls(decl("", seven...)), api.ErrArg)
	fits(t, decls(decl("not", none...)), api.ErrArg)
	fits(t, decls(decl("p"), decl("p", seven...)), api.ErrArg)
	fits(t, decls(decl("p"), decl("p", none...)), api.ErrArg)
	fits(t, decls(decl("p", seven...)), api.ErrMany)
	fits(t, decls(decl("p", seven...), decl("")), api.ErrMany)
	fits(t, decls(decl("p", none...), decl("q", seven...)), api.ErrKind)
	fits(t, decls(decl("p", none...), decl("p")), api.ErrKind)
	fits(t, decls(decl("p"), decl("q", seven...), decl("q")), api.ErrMany)
	fits(t, decls(decl(""), decl("p", none...)), api.ErrArg)
}

// TestPrintSignature: P8.2, each kind, words like `int` as names, and nothing at all.
func TestPrintSignature(t *testing.T) {
	for _, c := range []struct {
		sig  []api.Decl
		text string
	}{
		{nil, ""},
		{decls(decl("p")), "p\n"},
		{decls(decl("p", api.Int), decl("q", api.Int, api.Str)), "p int\nq int str\n"},
		{decls(decl("q", api.Str, api.Rat, api.Int), decl("b"), decl("a", api.Rat)), "q str rat int\nb\na rat\n"},
		{decls(decl("int", api.Int), decl("rat"), decl("str", api.Rat, api.Str)), "int int\nrat\nstr rat str\n"},
		{decls(decl("abcdefghij_12345", 3, 3, 3, 3, 3, 3)), "abcdefghij_12345 str str str str str str\n"},
		{many(32), lines(32)},
	} {
		if s, e := trace.PrintSignature(c.sig); s != c.text || e != api.OK {
			t.Errorf("%v: %q, %d, want %q", c.sig, s, e, c.text)
		}
		takes(t, c.text, c.sig...)
	}
}

// TestLines: P8.3, empty lines, lines of blanks alone, a last line with and without a line end: which are passed over, and how the others are numbered.
func TestLines(t *testing.T) {
	for _, s := range []string{"", "\n", "\n\n\n", " ", "   \n \n", " \n\n  "} {
		takes(t, s)
		takes(t, s+"\np int", decl("p", api.Int))
		takes(t, "p int\n"+s, decl("p", api.Int))
		takes(t, "p int\n"+s+"\n q  str", decl("p", api.Int), decl("q", api.Str))
		ahead := strings.Count(s, "\n")
		refuses(t, s+"\nq foo", api.ErrParse, ahead+2)
		refuses(t, "p int\n"+s+"\nP\n", api.ErrLex, ahead+3)
		refuses(t, "p int\n"+s+"\np\nq", api.ErrArg, ahead+3)
	}
	takes(t, "p int", decl("p", api.Int))
	takes(t, "p int\n", decl("p", api.Int))
	takes(t, "p int\n\n", decl("p", api.Int))
	takes(t, "  p   int  \n q", decl("p", api.Int), decl("q"))
	takes(t, "p\nint", decl("p"), decl("int"))
	takes(t, "int int\nstr rat str\nrat", decl("int", api.Int), decl("str", api.Rat, api.Str), decl("rat"))
	refuses(t, "p\rq", api.ErrLex, 1)
	refuses(t, "p\n\t\n", api.ErrLex, 2)
}

// TestLineTokens: P8.3, lines whose first token is no name, or another one no kind's word.
func TestLineTokens(t *testing.T) {
	other := []string{"(", ")", "=", "<=", "+", "-", "*", "<", "[0,1]", "[0,*]", "5", "-5", "1/2", `"p"`, `"int"`, "@5"}
	for _, s := range append(other, wordsReserved()...) {
		refuses(t, s, api.ErrParse, 1)
		refuses(t, "p\n"+s+" int", api.ErrParse, 2)
		refuses(t, "p\n\n"+s+"(", api.ErrParse, 3)
	}
	words := []string{"foo", "i", "in", "intt", "int_", "ints", "string", "rational", "p", "bool", "no"}
	for _, s := range slices.Concat(other, wordsReserved(), words) {
		refuses(t, "p "+s, api.ErrParse, 1)
		refuses(t, "q\np int "+s, api.ErrParse, 2)
		refuses(t, "q\np "+s+" int\nr", api.ErrParse, 2)
		refuses(t, "p int rat str int rat "+s, api.ErrParse, 1)
		refuses(t, "p int rat str int rat str int "+s, api.ErrParse, 1)
	}
	for _, s := range []string{"P", "p Int", "pQ", "é", "p .", "p int;", "p 05", "p 2/4", "p \"a", "p [5,3]", "p @", "\x00", "p\t int", "p >", "abcdefghij_123456", "p abcdefghij_123456"} {
		refuses(t, s, api.ErrLex, 1)
		refuses(t, s+"\np", api.ErrLex, 1)
		refuses(t, "q\n"+s, api.ErrLex, 2)
		refuses(t, "q\n\n \n"+s+"\nq\n", api.ErrLex, 4)
	}
	takes(t, "abcdefghij_12345 int", decl("abcdefghij_12345", api.Int))
}

// TestLineMany: P8.3, no kinds, six and seven; no declarations, one, 32 and 33.
func TestLineMany(t *testing.T) {
	for i, word := range []string{"int", "rat", "str"} {
		for n := range 7 {
			takes(t, "p"+strings.Repeat(" "+word, n), decl("p", slices.Repeat([]int{i + 1}, n)...))
		}
		for _, n := range []int{7, 8, 900} {
			refuses(t, "p"+strings.Repeat(" "+word, n), api.ErrMany, 1)
			refuses(t, "q\np"+strings.Repeat(" "+word, n)+"\nq", api.ErrMany, 2)
		}
	}
	for n := range 33 {
		takes(t, lines(n), many(n)...)
	}
	refuses(t, lines(33), api.ErrMany, 33)
	refuses(t, lines(40), api.ErrMany, 33)
	refuses(t, "\n"+lines(32)+" \n\nzz int", api.ErrMany, 36)
	takes(t, lines(32)+" \n\n", many(32)...)
}

// TestLineOrder: P8.3, of several errors in a line the first one counts, and of several lines the first one.
func TestLineOrder(t *testing.T) {
	long := strings.Repeat(" ", 4097)
	seven := strings.Repeat(" int", 7)
	refuses(t, "p\nP"+long, api.ErrLong, 2)
	refuses(t, "p\n(foo"+long, api.ErrLong, 2)
	refuses(t, lines(32)+long+"aa", api.ErrLong, 33)
	refuses(t, "foo (\n"+long, api.ErrParse, 1)
	refuses(t, "not foo P", api.ErrLex, 1)
	refuses(t, lines(32)+"aa P", api.ErrLex, 33)
	refuses(t, "not"+seven, api.ErrParse, 1)
	refuses(t, "p"+seven+" foo", api.ErrParse, 1)
	refuses(t, "p\np foo", api.ErrParse, 2)
	refuses(t, lines(32)+"aa foo", api.ErrParse, 33)
	refuses(t, lines(32)+"not", api.ErrParse, 33)
	refuses(t, "p\np"+seven, api.ErrMany, 2)
	refuses(t, lines(32)+"aa", api.ErrMany, 33)
	refuses(t, lines(31)+"aa", api.ErrArg, 32)
	refuses(t, lines(31)+"aa\nP", api.ErrArg, 32)
	refuses(t, "p\np\nP", api.ErrArg, 2)
	refuses(t, "p int\np str", api.ErrArg, 2)
	refuses(t, "p"+seven+"\np\n", api.ErrMany, 1)
}

// TestSignatureLong: P8.3, a signature of MaxFormula bytes and of one more, a line of MaxLine bytes and of one more.
func TestSignatureLong(t *testing.T) {
	room := strings.Repeat(" ", 4091)
	takes(t, "p int"+room, decl("p", api.Int))
	takes(t, room+"p int\n", decl("p", api.Int))
	takes(t, "q\n"+room+"p int\nr", decl("q"), decl("p", api.Int), decl("r"))
	takes(t, "q\n"+strings.Repeat(" ", 4096), decl("q"))
	refuses(t, "p int "+room, api.ErrLong, 1)
	refuses(t, room+" p int\n", api.ErrLong, 1)
	refuses(t, "\n\n"+room+" p int\n", api.ErrLong, 3)
	refuses(t, "q\n"+room+" p int\nr", api.ErrLong, 2)
	refuses(t, "q\n"+strings.Repeat(" ", 4097), api.ErrLong, 2)
	refuses(t, strings.Repeat("P", 4097), api.ErrLong, 1)
	refuses(t, strings.Repeat("P", 4096), api.ErrLex, 1)

	full := strings.Repeat(strings.Repeat(" ", 4095)+"\n", 3)
	takes(t, full+"p int"+strings.Repeat(" ", 4090)+"\n", decl("p", api.Int))
	takes(t, full+"p int"+strings.Repeat(" ", 4091), decl("p", api.Int))
	takes(t, strings.Repeat("\n", 16384))
	takes(t, strings.Repeat("\n", 16383)+"p", decl("p"))
	refuses(t, full+"p int"+strings.Repeat(" ", 4090)+"\n\n", api.ErrLong, 0)
	refuses(t, strings.Repeat("\n", 16385), api.ErrLong, 0)
	refuses(t, strings.Repeat("\n", 16384)+"p", api.ErrLong, 0)
	refuses(t, strings.Repeat("P", 16385), api.ErrLong, 0)
	refuses(t, strings.Repeat(" ", 16385), api.ErrLong, 0)
	refuses(t, strings.Repeat("p\n", 1<<20), api.ErrLong, 0)
	refuses(t, strings.Repeat("\n", 16383)+"P", api.ErrLex, 16384)
	refuses(t, strings.Repeat("P", 16384), api.ErrLong, 1)
}
