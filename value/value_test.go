package value_test

import (
	"fmt"
	"math"
	"math/big"
	"regexp"
	"slices"
	"strings"
	"testing"

	"custos/api"
	"custos/value"
)

const most, least = math.MaxInt64, math.MinInt64

func num(n int64) api.Value { return api.Value{Kind: api.Int, N: n} }

func rat(n, d int64) api.Value { return api.Value{Kind: api.Rat, N: n, D: d} }

func str(s string) api.Value { return api.Value{Kind: api.Str, S: s} }

func row(l ...api.Value) []api.Value { return l }

// full and tooLong are strings at the limit and one byte past it.
func full() string { return strings.Repeat("x", 64) }

func tooLong() string { return strings.Repeat("x", 65) }

// rising are values that may be, each ahead of the next one.
func rising() []api.Value {
	return []api.Value{
		num(least), num(least + 1), num(-1 << 53), num(-1<<53 + 1), num(-10), num(-9), num(-1), num(0), num(1), num(9), num(10), num(1 << 53), num(1<<53 + 1), num(most - 1), num(most),
		rat(least, 1), rat(-most, 1), rat(-7, 2), rat(-3, 1), rat(-1, 1), rat(-1, 2), rat(-1, most), rat(0, 1), rat(1, most), rat(1, most-1), rat(1, 3), rat(1, 2), rat(2, 3), rat(most-1, most), rat(1, 1), rat(most, most-1), rat(most-1, most-2), rat(99, 1), rat(most, 2), rat(most, 1),
		str(""), str("\x00"), str("\x00\x00"), str("\x00\xff"), str("\x01"), str(`"`), str("-1"), str("0"), str("10"), str("9"), str("A"), str("B"), str(`\`), str("a"), str("a\x00"), str("aa"), str("ab"), str("b"), str(full()[1:]), str(full()), str("x\x80"), str("\x7f"), str("\x80"), str("\xc3\xa9"), str("\xff"),
	}
}

type wrong struct {
	v api.Value
	e api.Errno
}

// mayNot are values that may not be, each with its error; where there are several reasons, the first one counts.
func mayNot() []wrong {
	return []wrong{
		{api.Value{}, api.ErrKind},
		{api.Value{N: 5}, api.ErrKind},
		{api.Value{S: tooLong()}, api.ErrKind},
		{api.Value{Kind: -1}, api.ErrKind},
		{api.Value{Kind: -1, N: 1, D: 1}, api.ErrKind},
		{api.Value{Kind: 4}, api.ErrKind},
		{api.Value{Kind: 4, N: 1, D: 1}, api.ErrKind},
		{api.Value{Kind: math.MaxInt}, api.ErrKind},
		{api.Value{Kind: math.MinInt}, api.ErrKind},
		{api.Value{Kind: 1<<32 + api.Int, N: 1}, api.ErrKind},
		{api.Value{Kind: api.Int, N: 5, D: 1}, api.ErrKind},
		{api.Value{Kind: api.Int, D: least}, api.ErrKind},
		{api.Value{Kind: api.Int, N: 5, S: "5"}, api.ErrKind},
		{api.Value{Kind: api.Int, S: "\x00"}, api.ErrKind},
		{api.Value{Kind: api.Int, S: tooLong()}, api.ErrKind},
		{api.Value{Kind: api.Rat}, api.ErrKind},
		{api.Value{Kind: api.Rat, N: 5}, api.ErrKind},
		{rat(2, 4), api.ErrKind},
		{rat(-3, 3), api.ErrKind},
		{rat(0, 2), api.ErrKind},
		{rat(0, -1), api.ErrKind},
		{rat(1, -2), api.ErrKind},
		{rat(-1, -2), api.ErrKind},
		{rat(least, -1), api.ErrKind},
		{rat(1, least), api.ErrKind},
		{rat(least, 2), api.ErrKind},
		{rat(least, least), api.ErrKind},
		{rat(most, most), api.ErrKind},
		{api.Value{Kind: api.Rat, N: 1, D: 2, S: "a"}, api.ErrKind},
		{api.Value{Kind: api.Rat, N: 1, D: 2, S: tooLong()}, api.ErrKind},
		{api.Value{Kind: api.Str, N: 1}, api.ErrKind},
		{api.Value{Kind: api.Str, D: 1, S: "a"}, api.ErrKind},
		{api.Value{Kind: api.Str, N: -1, S: tooLong()}, api.ErrKind},
		{api.Value{Kind: api.Str, D: -1, S: tooLong()}, api.ErrKind},
		{str(tooLong()), api.ErrLong},
		{str(strings.Repeat("\x00", 65)), api.ErrLong},
		{str(strings.Repeat("é", 33)), api.ErrLong},
		{str(strings.Repeat("x", 1<<16)), api.ErrLong},
	}
}

func sign(n int) int {
	switch {
	case n < 0:
		return -1
	case n > 0:
		return 1
	}
	return 0
}

// stream is a row of numbers that look like chance and are the same each time.
type stream uint64

func (s *stream) next() uint64 {
	x := uint64(*s)
	x ^= x << 13
	x ^= x >> 7
	x ^= x << 17
	*s = stream(x)
	return x
}

func (s *stream) below(n int) int { return int(s.next() % uint64(n)) }

func (s *stream) number() int64 { return int64(s.next()) >> s.below(64) }

func (s *stream) text(most int) string {
	b := make([]byte, s.below(most+1))
	for i := range b {
		b[i] = byte(s.next())
	}
	return string(b)
}

func (s *stream) value() api.Value {
	switch s.below(3) {
	case 0:
		return num(s.number())
	case 1:
		q := big.NewRat(s.number(), s.number()&most>>1+1)
		return rat(q.Num().Int64(), q.Denom().Int64())
	}
	return str(s.text(api.MaxText))
}

// TestCheckTakes: P2.1, of values that may be.
func TestCheckTakes(t *testing.T) {
	for _, v := range rising() {
		if e := value.Check(v); e != api.OK {
			t.Errorf("Check(%v) is %d", v, e)
		}
	}
	for i := range 256 {
		if e := value.Check(str(string([]byte{byte(i)}))); e != api.OK {
			t.Errorf("Check of the byte %02x is %d", i, e)
		}
	}
	for n := range 200 {
		want := api.OK
		if n > 64 {
			want = api.ErrLong
		}
		if e := value.Check(str(strings.Repeat("\xff", n))); e != want {
			t.Errorf("Check of %d bytes is %d", n, e)
		}
	}
}

// TestCheckRefuses: P2.1, of values that may not be, by the first of their errors.
func TestCheckRefuses(t *testing.T) {
	for _, c := range mayNot() {
		if e := value.Check(c.v); e != c.e {
			t.Errorf("Check(%v) is %d, not %d", c.v, e, c.e)
		}
	}
}

// TestCheckFractions: P2.1, of all small fractions.
func TestCheckFractions(t *testing.T) {
	for n := int64(-30); n <= 30; n++ {
		for d := int64(-30); d <= 30; d++ {
			want := api.ErrKind
			if d > 0 && big.NewRat(n, d).Denom().Int64() == d {
				want = api.OK
			}
			if e := value.Check(rat(n, d)); e != want {
				t.Errorf("Check(%d/%d) is %d, not %d", n, d, e, want)
			}
		}
	}
}

// TestSame: P2.2, of values that may be and of such that may not.
func TestSame(t *testing.T) {
	l := rising()
	for _, c := range mayNot() {
		l = append(l, c.v)
	}
	for i, a := range l {
		for k, b := range l {
			b.S = strings.Clone(b.S)
			if got := value.Same(a, b); got != (i == k) {
				t.Errorf("Same(%v, %v) is %v", a, b, got)
			}
		}
	}
	a := api.Value{Kind: 9, N: 8, D: 7, S: "6"}
	for i, b := range []api.Value{{Kind: 1, N: 8, D: 7, S: "6"}, {Kind: 9, N: 1, D: 7, S: "6"}, {Kind: 9, N: 8, D: 1, S: "6"}, {Kind: 9, N: 8, D: 7, S: "1"}} {
		if value.Same(a, b) {
			t.Errorf("field %d does not count", i)
		}
	}
}

// TestCompare: P2.2 and P2.6, of values that may be: an order, and 0 just of the same.
func TestCompare(t *testing.T) {
	l := rising()
	for i, a := range l {
		for k, b := range l {
			if got := value.Compare(a, b); got != sign(i-k) {
				t.Errorf("Compare(%v, %v) is %d, not %d", a, b, got, sign(i-k))
			}
			if (value.Compare(a, b) == 0) != value.Same(a, b) {
				t.Errorf("Compare and Same of %v, %v are unlike", a, b)
			}
		}
	}
}

// TestCompareExamples: the chapter's.
func TestCompareExamples(t *testing.T) {
	for _, c := range [][2]api.Value{{num(5), rat(1, 2)}, {rat(1, 3), rat(1, 2)}, {str("a"), str("ab")}, {rat(99, 1), str("")}} {
		if got := value.Compare(c[0], c[1]); got != -1 {
			t.Errorf("Compare(%v, %v) is %d", c[0], c[1], got)
		}
	}
}

// TestCompareRefuses: P2.2, 0 where one of both may not be, on either side.
func TestCompareRefuses(t *testing.T) {
	for _, c := range mayNot() {
		for _, v := range rising() {
			if value.Compare(c.v, v) != 0 || value.Compare(v, c.v) != 0 {
				t.Errorf("Compare of %v and %v is not 0", c.v, v)
			}
		}
		for _, d := range mayNot() {
			if value.Compare(c.v, d.v) != 0 {
				t.Errorf("Compare of %v and %v is not 0", c.v, d.v)
			}
		}
	}
}

// worth is an exact comparing of two values that may be.
func worth(a, b api.Value) int {
	if a.Kind != b.Kind {
		return sign(a.Kind - b.Kind)
	}
	switch a.Kind {
	case api.Int:
		return big.NewInt(a.N).Cmp(big.NewInt(b.N))
	case api.Rat:
		return big.NewRat(a.N, a.D).Cmp(big.NewRat(b.N, b.D))
	}
	return slices.Compare([]byte(a.S), []byte(b.S))
}

// TestCompareMany: P2.2 and P2.6, of many values against exact numbers and bytes.
func TestCompareMany(t *testing.T) {
	s := stream(20261116)
	for range 20000 {
		a, b, c := s.value(), s.value(), s.value()
		if got := value.Compare(a, b); got != worth(a, b) {
			t.Fatalf("Compare(%v, %v) is %d, not %d", a, b, got, worth(a, b))
		}
		l := row(a, b, c)
		slices.SortFunc(l, value.Compare)
		if value.Compare(l[0], l[1]) > 0 || value.Compare(l[1], l[2]) > 0 || value.Compare(l[0], l[2]) > 0 {
			t.Fatalf("%v do not rise", l)
		}
	}
}

// TestCompareRow: P2.2 and P2.6, of all rows of up to three of some values.
func TestCompareRow(t *testing.T) {
	l := row(num(least), num(1), num(2), rat(1, 2), str("a"), str("ab"))
	rows := [][]api.Value{nil}
	for _, a := range l {
		rows = append(rows, row(a))
		for _, b := range l {
			rows = append(rows, row(a, b))
			for _, c := range l {
				rows = append(rows, row(a, b, c))
			}
		}
	}
	for i, a := range rows {
		for k, b := range rows {
			if got := value.CompareRow(a, b); got != sign(i-k) {
				t.Fatalf("CompareRow(%v, %v) is %d, not %d", a, b, got, sign(i-k))
			}
		}
	}
}

// TestCompareRowEdges: P2.2, the chapter's examples, and rows with values that may not be.
func TestCompareRowEdges(t *testing.T) {
	bad, other := rat(2, 4), api.Value{Kind: 4, N: 9}
	for i, c := range []struct {
		a, b []api.Value
		want int
	}{
		{row(num(1)), row(num(1), num(2)), -1},
		{row(num(2)), row(num(1), num(2)), 1},
		{row(num(1), num(2)), row(num(2)), -1},
		{row(), row(), 0},
		{nil, row(), 0},
		{row(), nil, 0},
		{nil, row(bad), -1},
		{row(bad), nil, 1},
		{row(bad), row(num(1)), 0},
		{row(bad), row(other), 0},
		{row(bad, num(2)), row(num(1), num(1)), 1},
		{row(num(9), num(1)), row(other, num(2)), -1},
		{row(num(1), bad), row(num(1), num(1), num(1)), -1},
		{row(num(1), num(2), bad), row(num(1), num(2)), 1},
		{row(num(1), bad), row(num(2), num(1)), -1},
	} {
		if got := value.CompareRow(c.a, c.b); got != c.want {
			t.Errorf("%d: CompareRow(%v, %v) is %d, not %d", i, c.a, c.b, got, c.want)
		}
	}
}

// TestCompareRowKeeps: rule R4, rows and the room behind them stay as they are.
func TestCompareRowKeeps(t *testing.T) {
	room := row(num(3), num(2), num(1), rat(1, 2))
	kept := slices.Clone(room)
	value.CompareRow(room[:2], room[1:3])
	if !slices.Equal(room, kept) {
		t.Errorf("the rows became %v", room)
	}
}

type operation struct {
	name string
	does func(a, b api.Value) (api.Value, api.Errno)
	big  func(z, x, y *big.Rat) *big.Rat
}

func operations() []operation {
	return []operation{
		{"Add", value.Add, (*big.Rat).Add},
		{"Sub", value.Sub, (*big.Rat).Sub},
		{"Mul", value.Mul, (*big.Rat).Mul},
	}
}

// reckoned is what an operation must answer of two values that may be.
func (o operation) reckoned(a, b api.Value) (api.Value, api.Errno) {
	if a.Kind != b.Kind || a.Kind == api.Str {
		return api.Value{}, api.ErrKind
	}
	if a.Kind == api.Int {
		q := o.big(new(big.Rat), big.NewRat(a.N, 1), big.NewRat(b.N, 1))
		if !q.Num().IsInt64() {
			return api.Value{}, api.ErrOver
		}
		return num(q.Num().Int64()), api.OK
	}
	q := o.big(new(big.Rat), big.NewRat(a.N, a.D), big.NewRat(b.N, b.D))
	if !q.Num().IsInt64() || !q.Denom().IsInt64() {
		return api.Value{}, api.ErrOver
	}
	return rat(q.Num().Int64(), q.Denom().Int64()), api.OK
}

func (o operation) try(t *testing.T, a, b api.Value) {
	t.Helper()
	want, wantE := o.reckoned(a, b)
	if v, e := o.does(a, b); v != want || e != wantE {
		t.Errorf("%s(%v, %v) is %v, %d, not %v, %d", o.name, a, b, v, e, want, wantE)
	}
}

// TestReckon: P2.3, of all pairs of values that may be, and of many more.
func TestReckon(t *testing.T) {
	for _, o := range operations() {
		for _, a := range rising() {
			for _, b := range rising() {
				o.try(t, a, b)
			}
		}
		s := stream(7 + len(o.name))
		for range 20000 {
			o.try(t, s.value(), s.value())
			o.try(t, num(s.number()), num(s.number()))
		}
	}
}

// TestReckonExamples: P2.3, the chapter's, and the edges of int64.
func TestReckonExamples(t *testing.T) {
	for i, c := range []struct {
		does       func(a, b api.Value) (api.Value, api.Errno)
		a, b, want api.Value
		e          api.Errno
	}{
		{value.Add, num(most), num(1), api.Value{}, api.ErrOver},
		{value.Mul, rat(1, 2), rat(2, 3), rat(1, 3), api.OK},
		{value.Add, num(1), rat(1, 1), api.Value{}, api.ErrKind},
		{value.Sub, str("a"), str("a"), api.Value{}, api.ErrKind},
		{value.Sub, num(least), num(1), api.Value{}, api.ErrOver},
		{value.Add, num(most), num(least), num(-1), api.OK},
		{value.Sub, num(-1), num(least), num(most), api.OK},
		{value.Sub, num(0), num(least), api.Value{}, api.ErrOver},
		{value.Mul, num(least), num(-1), api.Value{}, api.ErrOver},
		{value.Mul, num(least), num(1), num(least), api.OK},
		{value.Mul, num(1 << 32), num(-1 << 31), num(least), api.OK},
		{value.Mul, num(1 << 32), num(1 << 31), api.Value{}, api.ErrOver},
		{value.Mul, num(1 << 32), num(1 << 32), api.Value{}, api.ErrOver},
		{value.Add, rat(1, 2), rat(-1, 2), rat(0, 1), api.OK},
		{value.Add, rat(most, 1), rat(1, 1), api.Value{}, api.ErrOver},
		{value.Add, rat(1, most), rat(1, most-1), api.Value{}, api.ErrOver},
		{value.Sub, rat(least, 1), rat(least, 1), rat(0, 1), api.OK},
		{value.Mul, rat(most, 2), rat(2, most), rat(1, 1), api.OK},
		{value.Mul, rat(1, most), rat(1, 2), api.Value{}, api.ErrOver},
		{value.Add, str("1"), num(1), api.Value{}, api.ErrKind},
	} {
		if v, e := c.does(c.a, c.b); v != c.want || e != c.e {
			t.Errorf("%d: %v, %d, not %v, %d", i, v, e, c.want, c.e)
		}
	}
}

// TestReckonRefuses: P2.3, the error of a value that may not be, the first one's ahead.
func TestReckonRefuses(t *testing.T) {
	for _, o := range operations() {
		for _, c := range mayNot() {
			for _, v := range rising() {
				if got, e := o.does(c.v, v); got != (api.Value{}) || e != c.e {
					t.Errorf("%s(%v, %v) is %v, %d", o.name, c.v, v, got, e)
				}
				if got, e := o.does(v, c.v); got != (api.Value{}) || e != c.e {
					t.Errorf("%s(%v, %v) is %v, %d", o.name, v, c.v, got, e)
				}
			}
			for _, d := range mayNot() {
				if got, e := o.does(c.v, d.v); got != (api.Value{}) || e != c.e {
					t.Errorf("%s(%v, %v) is %v, %d", o.name, c.v, d.v, got, e)
				}
			}
		}
	}
}

// TestReckonIntsAsRats: P2.7, Ints are reckoned with as the Rats of the same worth.
func TestReckonIntsAsRats(t *testing.T) {
	numbers := []int64{least, least + 1, -3037000500, -7, -1, 0, 1, 2, 3037000499, 1 << 32, 1 << 62, most - 1, most}
	for _, o := range operations() {
		for _, a := range numbers {
			for _, b := range numbers {
				v, e := o.does(num(a), num(b))
				w, f := o.does(rat(a, 1), rat(b, 1))
				if e != f || e == api.OK && (v != num(w.N) || w.D != 1) {
					t.Errorf("%s of %d, %d is %v, %d of Ints, %v, %d of Rats", o.name, a, b, v, e, w, f)
				}
			}
		}
	}
}

// written is the text of a value that may be, or of a Str that is too long, after P2.4.
func written(v api.Value) string {
	switch v.Kind {
	case api.Int:
		return fmt.Sprint(v.N)
	case api.Rat:
		return fmt.Sprintf("%d/%d", v.N, v.D)
	}
	s := ""
	for _, c := range []byte(v.S) {
		switch {
		case c == 0x22 || c == 0x5c:
			s += `\` + string(rune(c))
		case c < 0x20 || c > 0x7e:
			s += fmt.Sprintf(`\x%02x`, c)
		default:
			s += string(rune(c))
		}
	}
	return `"` + s + `"`
}

// roundTrip: P2.4, P2.5 and P2.7 of one value.
func roundTrip(t *testing.T, v api.Value) {
	t.Helper()
	s, e := value.Print(v)
	if s != written(v) || e != api.OK {
		t.Errorf("Print(%v) is %s, %d", v, s, e)
	}
	if w, e := value.Parse(written(v)); w != v || e != api.OK {
		t.Errorf("Parse(%s) is %v, %d", written(v), w, e)
	}
}

// TestTextThereAndBack: P2.4, P2.5, P2.7, of every byte alone and behind each other one, and of many values.
func TestTextThereAndBack(t *testing.T) {
	for _, v := range rising() {
		roundTrip(t, v)
	}
	for i := range 256 {
		for k := range 256 {
			roundTrip(t, str(string([]byte{byte(i), byte(k)})))
		}
		roundTrip(t, str(string([]byte{byte(i)})))
		roundTrip(t, str(strings.Repeat(string([]byte{byte(i)}), 64)))
	}
	s := stream(99)
	for range 20000 {
		roundTrip(t, s.value())
	}
}

// TestPrintExamples: P2.4, the chapter's, and the edges of bytes and numbers.
func TestPrintExamples(t *testing.T) {
	for _, c := range []struct {
		v    api.Value
		want string
	}{
		{num(-5), `-5`},
		{rat(-3, 1), `-3/1`},
		{str("\x22\x41\x00"), `"\"A\x00"`},
		{num(0), `0`},
		{rat(0, 1), `0/1`},
		{num(least), `-9223372036854775808`},
		{num(most), `9223372036854775807`},
		{rat(least, most), `-9223372036854775808/9223372036854775807`},
		{str(""), `""`},
		{str("\x1f\x20\x21\x23\x5b\x5c\x5d\x7e\x7f\x80\xff"), `"\x1f !#[\\]~\x7f\x80\xff"`},
		{str("\t\n\r\a/'`"), `"\x09\x0a\x0d\x07/'` + "`" + `"`},
		{str("é\ufffd"), `"\xc3\xa9\xef\xbf\xbd"`},
		{str(`\x41`), `"\\x41"`},
	} {
		if s, e := value.Print(c.v); s != c.want || e != api.OK {
			t.Errorf("Print(%v) is %s, %d, not %s", c.v, s, e, c.want)
		}
		if v, e := value.Parse(c.want); v != c.v || e != api.OK {
			t.Errorf("Parse(%s) is %v, %d, not %v", c.want, v, e, c.v)
		}
	}
}

// TestPrintRefuses: P2.4, Check's error and no text.
func TestPrintRefuses(t *testing.T) {
	for _, c := range mayNot() {
		if s, e := value.Print(c.v); s != "" || e != c.e {
			t.Errorf("Print(%v) is %q, %d, not %d", c.v, s, e, c.e)
		}
	}
}

// TestParseRefuses: P2.5, texts that are none.
func TestParseRefuses(t *testing.T) {
	for _, s := range []string{
		``, ` `, `-`, `+`, `--1`, `-0`, `+0`, `+1`, `00`, `05`, `-05`, `0x5`, `5x`, `5 `, ` 5`, "5\n", "5\x00", `1_0`, `1.0`, `1e3`, `a`, `true`, "\xff", "\u0665",
		`9223372036854775808`, `-9223372036854775809`, `18446744073709551616`, `18446744073709551621`, strings.Repeat("9", 1000),
		`/`, `1/`, `/1`, `1/0`, `0/0`, `0/2`, `0/-1`, `-0/1`, `2/4`, `-2/4`, `1/-2`, `-1/-2`, `1/+2`, `+1/2`, `01/2`, `1/02`, `1/2/3`, `1//2`, `1/ 2`, `1 /2`, `1/2 `, `1/x`, `x/1`, `1/9223372036854775808`, `9223372036854775808/1`, `1/9223372036854775807 `, `9223372036854775807/9223372036854775807`, `"1"/2`, `1/"2"`,
		`"`, `"a`, `a"`, `'a'`, `"a" `, ` "a"`, `"a"b"`, `""a`, `"""`, `"""" `, `""""`, `"\"`, `"\`, `"\\\"`, `"a\`, `"\a"`, `"\n"`, `"\/"`, `"\ "`, `"\X00"`, `"\x"`, `"\x0"`, `"\x0`, `"\x00`, `"\xg0"`, `"\x0g"`, `"\xAB"`, `"\xaB"`, `"\xFf"`, `"\x+1"`, `"\x-1"`, `"\x 1"`, `"\x1 "`, `"\x_1"`, `"\x"1"`, `"\x1"" `, `"\u0000"`, `"\000"`,
		`"\x41"`, `"\x20"`, `"\x7e"`, `"\x22"`, `"\x5c"`, "\"\x00\"", "\"\x1f\"", "\"\x7f\"", "\"\x80\"", "\"\xff\"", "\"\n\"", "\"\t\"", `"é"`,
		`"` + tooLong(), `"` + tooLong() + `" `, `"` + tooLong() + `\`, `"` + tooLong() + `\"`, `"` + tooLong() + `\x41"`, `"` + tooLong() + `\xAB"`, `"` + tooLong() + "\x00\"", `"` + tooLong() + `"a"`,
	} {
		if v, e := value.Parse(s); v != (api.Value{}) || e != api.ErrParse {
			t.Errorf("Parse(%q) is %v, %d", s, v, e)
		}
	}
}

// TestParseLong: P2.5, the texts of Strs at the limit and past it, however many bytes say them.
func TestParseLong(t *testing.T) {
	for _, piece := range []string{"x", " ", `"`, `\`, "\x00", "\xff", "\n"} {
		for _, n := range []int{63, 64, 65, 66, 1000} {
			v := str(strings.Repeat(piece, n))
			want, wantE := v, api.OK
			if n > 64 {
				want, wantE = api.Value{}, api.ErrLong
			}
			if got, e := value.Parse(written(v)); got != want || e != wantE {
				t.Errorf("Parse of %q, %d times, is %v, %d", piece, n, got, e)
			}
		}
	}
}

var (
	wholeText  = regexp.MustCompile(`^(0|-?[1-9][0-9]*)$`)
	brokenText = regexp.MustCompile(`^(0|-?[1-9][0-9]*)/([1-9][0-9]*)$`)
	quotedText = regexp.MustCompile(`^"([\x20\x21\x23-\x5b\x5d-\x7e]|\\["\\]|\\x([01][0-9a-f]|7f|[89a-f][0-9a-f]))*"$`)
)

// isText tells by its form alone whether s is the text of a number or of a Str of at most 64 bytes.
func isText(s string) bool {
	if quotedText.MatchString(s) {
		return true
	}
	if wholeText.MatchString(s) {
		n, _ := new(big.Int).SetString(s, 10)
		return n.IsInt64()
	}
	if !brokenText.MatchString(s) {
		return false
	}
	q, _ := new(big.Rat).SetString(s)
	return q.Num().IsInt64() && q.Denom().IsInt64() && s == q.String()
}

func parseTakesTexts(t *testing.T, s string) {
	t.Helper()
	v, e := value.Parse(s)
	if !isText(s) {
		if v != (api.Value{}) || e != api.ErrParse {
			t.Errorf("Parse(%q) is %v, %d", s, v, e)
		}
		return
	}
	if p, f := value.Print(v); e != api.OK || p != s || f != api.OK {
		t.Errorf("Parse(%q) is %v, %d, and its text %q", s, v, e, p)
	}
}

// TestParseShort: P2.5 and P2.7, of all texts of up to five of the bytes that count.
func TestParseShort(t *testing.T) {
	bytes := "012-/\"\\xaf\x7f"
	var longer func(s string)
	longer = func(s string) {
		parseTakesTexts(t, s)
		if len(s) == 5 {
			return
		}
		for i := range len(bytes) {
			longer(s + bytes[i:i+1])
		}
	}
	longer("")
	for i := range 256 {
		for k := range 256 {
			two := string([]byte{byte(i), byte(k)})
			parseTakesTexts(t, two)
			parseTakesTexts(t, `"`+two+`"`)
			parseTakesTexts(t, `"\x`+two+`"`)
			parseTakesTexts(t, `7`+two+`7`)
		}
	}
}

// TestParseChanged: P2.5 and P2.7, of texts with a byte put in, taken out or put in another's place.
func TestParseChanged(t *testing.T) {
	s := stream(5)
	for range 20000 {
		v := s.value()
		if v.Kind == api.Str {
			v.S = s.text(8)
		}
		text := written(v)
		at, c := s.below(len(text)), string([]byte{byte(s.next())})
		parseTakesTexts(t, text[:at]+text[at+1:])
		parseTakesTexts(t, text[:at]+c+text[at:])
		parseTakesTexts(t, text[:at]+c+text[at+1:])
	}
}
