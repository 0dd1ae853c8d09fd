package lex_test

import (
	"math"
	"math/big"
	"regexp"
	"slices"
	"strings"
	"testing"
	"unsafe"

	"custos/api"
	"custos/lex"
	"custos/value"
)

const most, least = math.MaxInt64, math.MinInt64

func num(n int64) api.Value { return api.Value{Kind: api.Int, N: n} }

func rat(n, d int64) api.Value { return api.Value{Kind: api.Rat, N: n, D: d} }

func str(s string) api.Value { return api.Value{Kind: api.Str, S: s} }

func list(l ...lex.Token) []lex.Token { return l }

// tok is a token of a kind that has no value, val one of a value, at a place.
func tok(kind, at int, text string) lex.Token { return lex.Token{Kind: kind, At: at, Text: text} }

func val(at int, text string, v api.Value) lex.Token {
	return lex.Token{Kind: 6, At: at, Text: text, Value: v}
}

func clock(at int, text string, n int64) lex.Token {
	return lex.Token{Kind: 7, At: at, Text: text, Value: num(n)}
}

// takes asks for just these tokens.
func takes(t *testing.T, s string, want []lex.Token) {
	t.Helper()
	l, e, at := lex.Tokens(s)
	if e != api.OK || at != 0 || !slices.Equal(l, want) {
		t.Errorf("%.80q: %v, %d, %d, want %v", s, l, e, at, want)
	}
}

// refuses asks for an error, its place, and no token beside it.
func refuses(t *testing.T, s string, e api.Errno, place int) {
	t.Helper()
	if l, got, at := lex.Tokens(s); got != e || at != place || len(l) != 0 {
		t.Errorf("%.80q: %v, %d, %d, want the error %d at %d", s, l, got, at, e, place)
	}
}

// stream is a row of numbers that look like chance and are the same each time.
type stream uint64

func (s *stream) next() uint64 {
	x := uint64(*s)
	x ^= x << 13
	x ^= x >> 7
	x ^= x << 17
	*s = stream(x)
	return x
}

func (s *stream) below(n int) int { return int(s.next() % uint64(n)) }

// model is the promise's table: what a token looks like that begins at a place, whether or not it may be.
type model struct {
	kind  int
	shape *regexp.Regexp
}

func models() []model {
	return []model{
		{1, regexp.MustCompile(`^\(`)},
		{2, regexp.MustCompile(`^\)`)},
		{3, regexp.MustCompile(`^[a-z][a-z0-9_]*`)},
		{6, regexp.MustCompile(`^-?[0-9]+(/[0-9]+)?`)},
		{4, regexp.MustCompile(`^(<=|[=+*<-])`)},
		{5, regexp.MustCompile(`^\[[^\]]*\]`)},
		{6, regexp.MustCompile(`(?s)^"([^"\\]|\\.)*"`)},
		{7, regexp.MustCompile(`^@[0-9]+`)},
	}
}

var (
	plain = regexp.MustCompile(`^(0|[1-9][0-9]*)$`)
	ends  = regexp.MustCompile(`^\[([0-9]+),([0-9]+|\*)\]$`)
)

// time is a number of digits that may be a time.
func time(s string) (*big.Int, bool) {
	n, ok := new(big.Int).SetString(s, 10)
	return n, ok && plain.MatchString(s) && n.Cmp(big.NewInt(1<<40)) <= 0
}

func intervalMayBe(s string) bool {
	m := ends.FindStringSubmatch(s)
	if m == nil {
		return false
	}
	a, ok := time(m[1])
	if !ok || m[2] == "*" {
		return ok
	}
	b, ok := time(m[2])
	return ok && a.Cmp(b) <= 0
}

// finish puts a token's value in, or says that there is none such.
func finish(k lex.Token) (lex.Token, bool) {
	switch k.Kind {
	case 3:
		return k, len(k.Text) <= 16
	case 5:
		return k, intervalMayBe(k.Text)
	case 6:
		v, e := value.Parse(k.Text)
		k.Value = v
		return k, e == api.OK
	case 7:
		n, ok := time(k.Text[1:])
		if ok {
			k.Value = num(n.Int64())
		}
		return k, ok
	}
	return k, true
}

// meant is what the promise says of a text that is not too long.
func meant(l []model, s string) ([]lex.Token, api.Errno, int) {
	var out []lex.Token
next:
	for at := 0; at < len(s); {
		if s[at] == 0x20 || s[at] == 0x0a {
			at++
			continue
		}
		for _, m := range l {
			text := m.shape.FindString(s[at:])
			if text == "" {
				continue
			}
			k, ok := finish(tok(m.kind, at, text))
			if !ok {
				return nil, api.ErrLex, at
			}
			out = append(out, k)
			at += len(text)
			continue next
		}
		return nil, api.ErrLex, at
	}
	return out, api.OK, 0
}

func sameAsMeant(t *testing.T, l []model, s string) bool {
	t.Helper()
	want, wantE, wantAt := meant(l, s)
	got, e, at := lex.Tokens(s)
	if e != wantE || at != wantAt || !slices.Equal(got, want) {
		t.Errorf("%q: %v, %d, %d, want %v, %d, %d", s, got, e, at, want, wantE, wantAt)
		return false
	}
	return true
}

// TestExamples: P5.1, P5.2, the chapter's table.
func TestExamples(t *testing.T) {
	takes(t, "(p x)", list(tok(1, 0, "("), tok(3, 1, "p"), tok(3, 3, "x"), tok(2, 4, ")")))
	takes(t, "<==-5--5", list(tok(4, 0, "<="), tok(4, 2, "="), val(3, "-5", num(-5)), tok(4, 5, "-"), val(6, "-5", num(-5))))
	takes(t, `1/2x"a\"b"`, list(val(0, "1/2", rat(1, 2)), tok(3, 3, "x"), val(4, `"a\"b"`, str(`a"b`))))
	takes(t, "[0,5][3,*]@7", list(tok(5, 0, "[0,5]"), tok(5, 5, "[3,*]"), clock(10, "@7", 7)))
	refuses(t, "1/-2", api.ErrLex, 1)
	refuses(t, "a /", api.ErrLex, 2)
	for _, s := range []string{"05", "2/4", `"a`, "[5,3]", "[ 0,1]", "@", "@05", "A", "\x09"} {
		refuses(t, s, api.ErrLex, 0)
	}
	takes(t, "", nil)
	takes(t, " \n", nil)
}

// TestWhole: P5.1, P5.2, texts as the other layers have them.
func TestWhole(t *testing.T) {
	takes(t, "(and (p x 1)\n (< x (+ y -2)))", list(
		tok(1, 0, "("), tok(3, 1, "and"), tok(1, 5, "("), tok(3, 6, "p"), tok(3, 8, "x"), val(10, "1", num(1)), tok(2, 11, ")"),
		tok(1, 14, "("), tok(4, 15, "<"), tok(3, 17, "x"), tok(1, 19, "("), tok(4, 20, "+"), tok(3, 22, "y"), val(24, "-2", num(-2)), tok(2, 26, ")"), tok(2, 27, ")"), tok(2, 28, ")")))
	takes(t, ` ( once[0,5](p"a\"b")) `, list(
		tok(1, 1, "("), tok(3, 3, "once"), tok(5, 7, "[0,5]"), tok(1, 12, "("), tok(3, 13, "p"), val(14, `"a\"b"`, str(`a"b`)), tok(2, 20, ")"), tok(2, 21, ")")))
	takes(t, `@5 (p 1 "x") (q)`, list(
		clock(0, "@5", 5), tok(1, 3, "("), tok(3, 4, "p"), val(6, "1", num(1)), val(8, `"x"`, str("x")), tok(2, 11, ")"), tok(1, 13, "("), tok(3, 14, "q"), tok(2, 15, ")")))
	takes(t, "p int str", list(tok(3, 0, "p"), tok(3, 2, "int"), tok(3, 6, "str")))
}

// TestLong: P5.1, the limit comes ahead of all else.
func TestLong(t *testing.T) {
	const limit = 16384
	takes(t, strings.Repeat(" ", limit), nil)
	takes(t, strings.Repeat(" ", limit-1)+"x", list(tok(3, limit-1, "x")))
	refuses(t, strings.Repeat(" ", limit-1)+"X", api.ErrLex, limit-1)
	for _, s := range []string{
		strings.Repeat(" ", limit+1),
		strings.Repeat("\n", limit) + "x",
		"X" + strings.Repeat(" ", limit),
		strings.Repeat("(", limit) + ")",
		strings.Repeat("A", limit+1),
		strings.Repeat("x ", 1<<16),
	} {
		refuses(t, s, api.ErrLong, 0)
	}
	l, e, at := lex.Tokens(strings.Repeat("()", limit/2))
	if e != api.OK || at != 0 || len(l) != limit {
		t.Fatal(len(l), e, at)
	}
	for i, k := range l {
		if k != tok(i%2+1, i, "()"[i%2:i%2+1]) {
			t.Fatal(i, k)
		}
	}
}

// TestFirstByte: P5.1, each byte alone, and behind a token that is fine.
func TestFirstByte(t *testing.T) {
	for i := range 256 {
		c := byte(i)
		s := string([]byte{c})
		kind := 0
		switch {
		case c == ' ' || c == '\n':
			takes(t, s, nil)
			takes(t, "x "+s, list(tok(3, 0, "x")))
			continue
		case c >= '0' && c <= '9':
			takes(t, s, list(val(0, s, num(int64(c-'0')))))
			continue
		case c >= 'a' && c <= 'z':
			kind = 3
		case c == '(':
			kind = 1
		case c == ')':
			kind = 2
		case strings.IndexByte("=+*<-", c) >= 0:
			kind = 4
		}
		if kind == 0 {
			refuses(t, s, api.ErrLex, 0)
			refuses(t, "x "+s, api.ErrLex, 2)
			refuses(t, " \n"+s+"x", api.ErrLex, 2)
			continue
		}
		takes(t, s, list(tok(kind, 0, s)))
		takes(t, "\n "+s, list(tok(kind, 2, s)))
	}
}

// TestWords: P5.1, which bytes a word goes on with, and how long it may be.
func TestWords(t *testing.T) {
	for i := range 256 {
		c := byte(i)
		s := "a" + string([]byte{c}) + "b"
		l, e, _ := lex.Tokens(s)
		whole := e == api.OK && slices.Equal(l, list(tok(3, 0, s)))
		if want := c >= 'a' && c <= 'z' || c >= '0' && c <= '9' || c == '_'; whole != want {
			t.Errorf("%q: %v, %d", s, l, e)
		}
	}
	for _, full := range []string{"abcdefghijklmnop", "z_0123456789_9_a", "qrstuvwxyzzzzzz_", "a000000000000000"} {
		takes(t, full, list(tok(3, 0, full)))
		takes(t, "("+full+")", list(tok(1, 0, "("), tok(3, 1, full), tok(2, 17, ")")))
		takes(t, full+" "+full, list(tok(3, 0, full), tok(3, 17, full)))
		takes(t, full+"-"+full, list(tok(3, 0, full), tok(4, 16, "-"), tok(3, 17, full)))
		for _, more := range []string{"a", "z", "0", "9", "_", "_____"} {
			refuses(t, full+more, api.ErrLex, 0)
			refuses(t, "( "+full+more+" )", api.ErrLex, 2)
		}
	}
	for _, s := range []string{"true", "false", "not", "letpast", "any", "star", "sum", "int"} {
		takes(t, s, list(tok(3, 0, s)))
	}
	takes(t, "a1b", list(tok(3, 0, "a1b")))
	takes(t, "1a", list(val(0, "1", num(1)), tok(3, 1, "a")))
	refuses(t, "_a", api.ErrLex, 0)
	refuses(t, "aB", api.ErrLex, 1)
	refuses(t, "a b.c", api.ErrLex, 3)
	refuses(t, "aé", api.ErrLex, 1)
}

// TestSigns: P5.1, '<' with and without '=', '-' with and without a digit behind it.
func TestSigns(t *testing.T) {
	for _, s := range []string{"=", "+", "*", "<", "-", "<="} {
		takes(t, s, list(tok(4, 0, s)))
		takes(t, s+" ", list(tok(4, 0, s)))
		takes(t, "("+s+"(", list(tok(1, 0, "("), tok(4, 1, s), tok(1, 1+len(s), "(")))
	}
	takes(t, "<<=", list(tok(4, 0, "<"), tok(4, 1, "<=")))
	takes(t, "< =", list(tok(4, 0, "<"), tok(4, 2, "=")))
	takes(t, "=<", list(tok(4, 0, "="), tok(4, 1, "<")))
	takes(t, "<==", list(tok(4, 0, "<="), tok(4, 2, "=")))
	takes(t, "<-1", list(tok(4, 0, "<"), val(1, "-1", num(-1))))
	takes(t, "- 5", list(tok(4, 0, "-"), val(2, "5", num(5))))
	takes(t, "-\n5", list(tok(4, 0, "-"), val(2, "5", num(5))))
	takes(t, "-x", list(tok(4, 0, "-"), tok(3, 1, "x")))
	takes(t, "--", list(tok(4, 0, "-"), tok(4, 1, "-")))
	takes(t, "--5", list(tok(4, 0, "-"), val(1, "-5", num(-5))))
	takes(t, "5-5", list(val(0, "5", num(5)), val(1, "-5", num(-5))))
	takes(t, "5-", list(val(0, "5", num(5)), tok(4, 1, "-")))
	takes(t, `-"5"`, list(tok(4, 0, "-"), val(1, `"5"`, str("5"))))
	takes(t, "+5", list(tok(4, 0, "+"), val(1, "5", num(5))))
	takes(t, "-@5", list(tok(4, 0, "-"), clock(1, "@5", 5)))
	refuses(t, ">", api.ErrLex, 0)
	refuses(t, "<>", api.ErrLex, 1)
	refuses(t, "-/5", api.ErrLex, 1)
	for c := byte('0'); c <= '9'; c++ {
		if c == '0' {
			refuses(t, "-0", api.ErrLex, 0)
			continue
		}
		s := "-" + string([]byte{c})
		takes(t, s, list(val(0, s, num(-int64(c-'0')))))
	}
}

// TestNumbers: P5.1, P5.2, Ints and Rats: where they end, and which there are.
func TestNumbers(t *testing.T) {
	for s, v := range map[string]api.Value{
		"0": num(0), "9": num(9), "10": num(10), "-1": num(-1), "1234567890": num(1234567890), "9223372036854775807": num(most), "-9223372036854775808": num(least),
		"0/1": rat(0, 1), "1/2": rat(1, 2), "-3/1": rat(-3, 1), "10/3": rat(10, 3), "1234567890/7": rat(1234567890, 7),
		"9223372036854775807/9223372036854775806": rat(most, most-1), "-9223372036854775808/9223372036854775807": rat(least, most),
	} {
		takes(t, s, list(val(0, s, v)))
		takes(t, s+"x", list(val(0, s, v), tok(3, len(s), "x")))
		takes(t, "x "+s+"(", list(tok(3, 0, "x"), val(2, s, v), tok(1, 2+len(s), "(")))
	}
	for _, s := range []string{
		"00", "05", "-0", "-05", "007", "9223372036854775808", "-9223372036854775809", "99999999999999999999999",
		"2/4", "0/2", "1/0", "0/0", "1/02", "01/2", "-0/1", "-2/2", "1/9223372036854775808", "9223372036854775808/1", "-4/2",
	} {
		refuses(t, s, api.ErrLex, 0)
		refuses(t, "x "+s+" y", api.ErrLex, 2)
		refuses(t, s+"x", api.ErrLex, 0)
	}
	takes(t, "1/2 3", list(val(0, "1/2", rat(1, 2)), val(4, "3", num(3))))
	takes(t, "1/2-3/2", list(val(0, "1/2", rat(1, 2)), val(3, "-3/2", rat(-3, 2))))
	refuses(t, "1/", api.ErrLex, 1)
	refuses(t, "1/ 2", api.ErrLex, 1)
	refuses(t, "1 /2", api.ErrLex, 2)
	refuses(t, "1/x", api.ErrLex, 1)
	refuses(t, "1//2", api.ErrLex, 1)
	refuses(t, "-1/-2", api.ErrLex, 2)
	refuses(t, "1/2/3", api.ErrLex, 3)
	refuses(t, "1/2/", api.ErrLex, 3)
	refuses(t, "1.5", api.ErrLex, 1)
	refuses(t, "1_000", api.ErrLex, 1)
	refuses(t, "/2", api.ErrLex, 0)
	refuses(t, "x/2", api.ErrLex, 1)
	refuses(t, "05/", api.ErrLex, 0)
}

// TestIntervals: P5.1, P5.2, which there are, at their edges.
func TestIntervals(t *testing.T) {
	for _, s := range []string{
		"[0,0]", "[0,1]", "[1,1]", "[9,10]", "[10,10]", "[0,*]", "[7,*]", "[10,*]", "[99,100]",
		"[0,1099511627776]", "[1099511627776,1099511627776]", "[1099511627775,1099511627776]", "[1099511627776,*]",
	} {
		takes(t, s, list(tok(5, 0, s)))
		takes(t, "x"+s+"y", list(tok(3, 0, "x"), tok(5, 1, s), tok(3, 1+len(s), "y")))
		takes(t, s+s, list(tok(5, 0, s), tok(5, len(s), s)))
	}
	for _, s := range []string{
		"[1,0]", "[5,3]", "[10,9]", "[1099511627776,1099511627775]", "[1099511627776,0]",
		"[0,1099511627777]", "[1099511627777,*]", "[1099511627777,1099511627777]", "[0,9223372036854775807]", "[0,9223372036854775808]", "[0,18446744073709551616]", "[18446744073709551616,*]", "[18446744073709551616,18446744073709551617]",
		"[00,1]", "[0,00]", "[01,2]", "[1,02]", "[01,*]", "[00,*]", "[0,01]",
		"[", "[]", "[,]", "[0]", "[0,]", "[,0]", "[,*]", "[*]", "[*,*]", "[*,0]", "[0,1", "[0,*", "[0", "[0,",
		"[-1,1]", "[0,-1]", "[-1,*]", "[-0,1]", "[+0,1]", "[0,+1]", "[0,1/1]", "[0/1,1]", "[1/2,*]", `["0",1]`, `[0,"1"]`, `["",*]`,
		"[ 0,1]", "[0 ,1]", "[0, 1]", "[0,1 ]", "[0,* ]", "[\n0,1]", "[0,1\n]", "[0,1,2]", "[0,1,*]", "[0,*,*]", "[0,**]", "[[0,1]", "[0,[1]", "[0;1]", "[0-1]", "[a,b]", "[0,1a]", "[0x0,0x1]", "[1_0,2_0]", "[0,1\x00]", "[0,\xff]",
	} {
		refuses(t, s, api.ErrLex, 0)
		refuses(t, "x"+s, api.ErrLex, 1)
		refuses(t, s+" (p)", api.ErrLex, 0)
	}
	refuses(t, "[0,1]]", api.ErrLex, 5)
	refuses(t, "(p [1,2)", api.ErrLex, 3)
	refuses(t, "[0,1][0,1", api.ErrLex, 5)
	refuses(t, "[0 [0,1]", api.ErrLex, 0)
}

// TestTexts: P5.1, P5.2, where a Str ends, and which there are.
func TestTexts(t *testing.T) {
	full := strings.Repeat("x", 64)
	for s, v := range map[string]string{
		`""`: "", `"a"`: "a", `"a b"`: "a b", `"(p x)"`: "(p x)", `"@5[0,1]"`: "@5[0,1]", `"é"`[:1] + `\xc3\xa9"`: "é",
		`"\""`: `"`, `"\\"`: `\`, `"\\\""`: `\"`, `"\"\""`: `""`, `"\\\\"`: `\\`, `"a\"b"`: `a"b`, `"\x00\x0a\x7f\xff"`: "\x00\n\x7f\xff", `"\\x41"`: `\x41`,
		`"` + full + `"`: full, `"` + strings.Repeat(`\x00`, 64) + `"`: strings.Repeat("\x00", 64), `"` + strings.Repeat(`\"`, 64) + `"`: strings.Repeat(`"`, 64),
	} {
		takes(t, s, list(val(0, s, str(v))))
		takes(t, s+s, list(val(0, s, str(v)), val(len(s), s, str(v))))
		takes(t, "x"+s+"y", list(tok(3, 0, "x"), val(1, s, str(v)), tok(3, 1+len(s), "y")))
	}
	for _, s := range []string{
		`"`, `"a`, `"\`, `"\"`, `"\\`, `"\\\"`, `"a\"b`, `"x `,
		`"\x41"`, `"\x22"`, `"\x5c"`, `"\x0A"`, `"\xFF"`, `"\x"`, `"\x0"`, `"\xg0"`, `"\n"`, `"\a"`, `"\ "`, `"\X00"`, "\"\n\"", "\"\x00\"", "\"\x7f\"", "\"\xff\"", `"é"`, "\"\t\"", "\"\\\n\"", "\"\\\xff\"",
		`"` + full + `x"`, `"` + strings.Repeat(`\x00`, 65) + `"`, `"` + strings.Repeat(`\\`, 65) + `"`,
	} {
		refuses(t, s, api.ErrLex, 0)
		refuses(t, "(p "+s, api.ErrLex, 3)
	}
	takes(t, `"\\"a"b"`, list(val(0, `"\\"`, str(`\`)), tok(3, 4, "a"), val(5, `"b"`, str("b"))))
	refuses(t, `"a"b"`, api.ErrLex, 4)
	refuses(t, `"a\"b"c"`, api.ErrLex, 7)
	refuses(t, `"\\\"" "`, api.ErrLex, 7)
	refuses(t, `x"\"`, api.ErrLex, 1)
	refuses(t, `\"a"`, api.ErrLex, 0)
	refuses(t, `'a'`, api.ErrLex, 0)
}

// TestTimes: P5.1, P5.2, which there are, at their edges.
func TestTimes(t *testing.T) {
	for s, n := range map[string]int64{"@0": 0, "@1": 1, "@9": 9, "@10": 10, "@1099511627775": 1<<40 - 1, "@1099511627776": 1 << 40} {
		takes(t, s, list(clock(0, s, n)))
		takes(t, " "+s+"x", list(clock(1, s, n), tok(3, 1+len(s), "x")))
		takes(t, s+s, list(clock(0, s, n), clock(len(s), s, n)))
		takes(t, s+"-1", list(clock(0, s, n), val(len(s), "-1", num(-1))))
		refuses(t, s+"/2", api.ErrLex, len(s))
		refuses(t, s+"/", api.ErrLex, len(s))
	}
	for _, s := range []string{
		"@", "@ 5", "@x", "@-5", "@-0", "@+5", "@00", "@05", "@0001", `@"5"`, "@@5", "@(", "@[0,1]", "@*", "@\x00",
		"@1099511627777", "@9999999999999", "@9223372036854775807", "@9223372036854775808", "@18446744073709551616", "@18446744073709551617",
	} {
		refuses(t, s, api.ErrLex, 0)
		refuses(t, "x "+s, api.ErrLex, 2)
	}
}

// TestBlanks: P5.1, at the beginning, at the end, and between; no other byte is one.
func TestBlanks(t *testing.T) {
	for _, s := range []string{"", " ", "\n", "  ", "\n\n", " \n ", "\n \n"} {
		takes(t, s, nil)
		takes(t, s+"x", list(tok(3, len(s), "x")))
		takes(t, "x"+s, list(tok(3, 0, "x")))
		takes(t, s+"("+s+"x"+s+")"+s, list(tok(1, len(s), "("), tok(3, 2*len(s)+1, "x"), tok(2, 3*len(s)+2, ")")))
	}
	for _, s := range []string{"\t", "\r", "\v", "\f", "\x00", "\u00a0", "\u0085", "\u2028", "\x1f", "\x7f"} {
		refuses(t, s, api.ErrLex, 0)
		refuses(t, "x "+s+" y", api.ErrLex, 2)
		refuses(t, "x"+s, api.ErrLex, 1)
	}
}

// TestFirstError: P5.1, of several the first one is told.
func TestFirstError(t *testing.T) {
	wrong := []string{"A", "05", `"\a"`, "[5,3]", "@", "/", "2/4", "seventeen_letters"}
	for _, a := range wrong {
		for _, b := range wrong {
			refuses(t, "(p 1/2 "+a+" "+b, api.ErrLex, 7)
			refuses(t, a+" "+b+" x", api.ErrLex, 0)
		}
		refuses(t, "(p x) [0,1] @7 \"b\" "+a, api.ErrLex, 19)
	}
}

// everyShort tells all texts of up to n of an alphabet's letters.
func everyShort(alphabet string, n int, do func(string) bool) bool {
	var grow func(head string) bool
	grow = func(head string) bool {
		if !do(head) {
			return false
		}
		if len(head) == n {
			return true
		}
		for i := range len(alphabet) {
			if !grow(head + alphabet[i:i+1]) {
				return false
			}
		}
		return true
	}
	return grow("")
}

// pieces are tokens, and what is nearly one.
func pieces() []string {
	return []string{
		"(", ")", "a", "zz_9", "abcdefghijklmnop", "=", "+", "*", "<", "<=", "-", "[0,1]", "[3,3]", "[7,*]", "[0,1099511627776]", "0", "12", "-5", "1/2", "-3/1", "9223372036854775807", `""`, `"a b"`, `"\""`, `"\\"`, `"\x00"`, "@0", "@17", "@1099511627776", "true", "join",
		" ", "\n", "  ", " ", "\n", " ",
	}
}

func nearly() []string {
	return []string{"/", "_", "A", "[", "]", ",", `"`, `\`, "@", "05", "2/4", "[1,0]", "[0,1", "@05", "\t", "\x00", "\xff", `"\x41"`, "1/", "1099511627777"}
}

// made are texts of pieces, some of them with one or more that are wrong.
func made(r *stream, good, bad []string) string {
	var b strings.Builder
	for range r.below(12) {
		if r.below(16) == 0 {
			b.WriteString(bad[r.below(len(bad))])
			continue
		}
		b.WriteString(good[r.below(len(good))])
	}
	return b.String()
}

// TestSmall: P5.1, P5.2, all short texts, against the promise's own words.
func TestSmall(t *testing.T) {
	l := models()
	everyShort("(a_-<=/01\"\\[],*@ \nA", 4, func(s string) bool { return sameAsMeant(t, l, s) })
	everyShort("-/012 ", 6, func(s string) bool { return sameAsMeant(t, l, s) })
	everyShort("\"\\x0a", 7, func(s string) bool { return sameAsMeant(t, l, s) })
	everyShort("<=-1a", 6, func(s string) bool { return sameAsMeant(t, l, s) })
	everyShort("01,*]", 6, func(s string) bool { return sameAsMeant(t, l, "["+s) })
	everyShort("0129@a", 5, func(s string) bool { return sameAsMeant(t, l, "@"+s) })
}

// TestPairs: P5.1, any two pieces, with no blank between them.
func TestPairs(t *testing.T) {
	l := models()
	all := append(pieces(), nearly()...)
	for _, a := range all {
		for _, b := range all {
			sameAsMeant(t, l, a+b)
			sameAsMeant(t, l, a+" "+b)
		}
	}
}

// TestMade: P5.1, P5.2, longer texts, against the promise's own words.
func TestMade(t *testing.T) {
	l, r := models(), stream(5)
	good, bad := pieces(), nearly()
	for range 30000 {
		if !sameAsMeant(t, l, made(&r, good, bad)) {
			return
		}
	}
}

// TestPlaces: P5.3, each token stands where it says, and between them are blanks alone.
func TestPlaces(t *testing.T) {
	r := stream(53)
	good, bad := pieces(), nearly()
	for range 30000 {
		s := made(&r, good, bad)
		l, e, _ := lex.Tokens(s)
		if e != api.OK {
			continue
		}
		end := 0
		for _, k := range append(l, lex.Token{At: len(s)}) {
			if k.At < end || strings.Trim(s[end:k.At], " \n") != "" || !strings.HasPrefix(s[k.At:], k.Text) || k.Text == "" && k.Kind != 0 {
				t.Fatalf("%q: %v", s, l)
			}
			end = k.At + len(k.Text)
		}
	}
}

// withoutPlaces are the tokens but for where they begin.
func withoutPlaces(l []lex.Token) []lex.Token {
	l = slices.Clone(l)
	for i := range l {
		l[i].At = 0
	}
	return l
}

// TestParted: P5.4, tokens with blanks between them are cut into the same ones again.
func TestParted(t *testing.T) {
	r := stream(54)
	good := pieces()
	blanks := []string{" ", "\n", "  ", " \n\n "}
	for range 20000 {
		l, e, _ := lex.Tokens(made(&r, good, good))
		if e != api.OK {
			continue
		}
		for i := range l {
			j := r.below(i + 1)
			l[i], l[j] = l[j], l[i]
		}
		var b strings.Builder
		for i, k := range l {
			if i > 0 {
				b.WriteString(blanks[r.below(len(blanks))])
			}
			b.WriteString(k.Text)
		}
		again, e, at := lex.Tokens(b.String())
		if e != api.OK || at != 0 || !slices.Equal(withoutPlaces(again), withoutPlaces(l)) {
			t.Fatalf("%q: %v, %d, %d, want %v", b.String(), again, e, at, l)
		}
	}
}

// TestAhead: P5.5, what stands ahead of an error's place has none.
func TestAhead(t *testing.T) {
	ahead := func(s string) bool {
		_, e, place := lex.Tokens(s)
		if e == api.OK {
			return true
		}
		if e != api.ErrLex || place < 0 || place >= len(s) {
			t.Errorf("%q: %d, %d", s, e, place)
			return false
		}
		if l, e, at := lex.Tokens(s[:place]); e != api.OK || at != 0 {
			t.Errorf("%q: %v, %d, %d", s[:place], l, e, at)
			return false
		}
		return true
	}
	everyShort("(a_-<=/01\"\\[],*@ \nA", 4, ahead)
	r := stream(55)
	good, bad := pieces(), nearly()
	for range 30000 {
		if !ahead(made(&r, good, bad)) {
			return
		}
	}
}

// TestAnyBytes: R1, any bytes are taken, or refused at a place of theirs.
func TestAnyBytes(t *testing.T) {
	l, r := models(), stream(1)
	for range 30000 {
		b := make([]byte, r.below(8))
		for i := range b {
			b[i] = byte(r.next())
		}
		if !sameAsMeant(t, l, string(b)) {
			return
		}
	}
}

// TestMemory: R4, R5, an answer shares nothing with the text, nor with another one.
func TestMemory(t *testing.T) {
	s := strings.Clone(`(p xyz 12 -3/4 "abc" <= [0,15] @77)`)
	first, _, _ := lex.Tokens(s)
	second, e, _ := lex.Tokens(s)
	if e != api.OK || !slices.Equal(first, second) {
		t.Fatal(first, second, e)
	}
	from := uintptr(unsafe.Pointer(unsafe.StringData(s)))
	for _, k := range first {
		for _, text := range []string{k.Text, k.Value.S} {
			if p := uintptr(unsafe.Pointer(unsafe.StringData(text))); text != "" && p >= from && p < from+uintptr(len(s)) {
				t.Errorf("%q lies in the text", text)
			}
		}
	}
	want := slices.Clone(second)
	room := first[:cap(first)]
	for i := range room {
		room[i] = tok(9, 9, "x")
	}
	third, _, _ := lex.Tokens(s)
	if !slices.Equal(second, want) || !slices.Equal(third, want) {
		t.Error("an answer was changed by writing into another one")
	}
}

// TestGreat: R1, R6, texts as long as may be, of one token or of very many.
func TestGreat(t *testing.T) {
	const limit = 16384
	for head, c := range map[string]string{"": "1", "-": "1", "1/": "1", "@": "1", "[": "1", "[0,": "9", `"`: "x", `"\`: `\`, "a": "a", "[ ": "["} {
		refuses(t, head+strings.Repeat(c, limit-len(head)), api.ErrLex, 0)
	}
	refuses(t, `"`+strings.Repeat("x", limit-2)+`"`, api.ErrLex, 0)
	refuses(t, "["+strings.Repeat("1", limit-2)+"]", api.ErrLex, 0)
	for _, s := range []string{"-", "<=", "x ", "@1", "-7", `""`, "[0,*]", "1 "} {
		l, e, at := lex.Tokens(strings.Repeat(s, limit/len(s)))
		if e != api.OK || at != 0 || len(l) != limit/len(s) {
			t.Fatalf("%q: %d tokens, %d, %d", s, len(l), e, at)
		}
		for i, k := range l {
			if k.At != i*len(s) || k.Text != strings.TrimSpace(s) {
				t.Fatalf("%q: %v", s, k)
			}
		}
	}
}
