package rat_test

import (
	"math"
	"math/big"
	"testing"

	"custos/api"
	"custos/rat"
)

const most, least = math.MaxInt64, math.MinInt64

type reckon func(a, b rat.R) (rat.R, api.Errno)

type operation struct {
	name string
	does reckon
	big  func(z, x, y *big.Rat) *big.Rat
}

func operations() []operation {
	return []operation{
		{"Add", rat.Add, (*big.Rat).Add},
		{"Sub", rat.Sub, (*big.Rat).Sub},
		{"Mul", rat.Mul, (*big.Rat).Mul},
		{"Div", rat.Div, (*big.Rat).Quo},
	}
}

func r(n, d int64) rat.R { return rat.R{N: n, D: d} }

func exact(a rat.R) *big.Rat { return big.NewRat(a.N, a.D) }

// told is what a call must answer whose exact answer is q.
func told(q *big.Rat) (rat.R, api.Errno) {
	if !q.Num().IsInt64() || !q.Denom().IsInt64() {
		return rat.R{}, api.ErrOver
	}
	return r(q.Num().Int64(), q.Denom().Int64()), api.OK
}

// numbers are the edges of int64, and others round about powers of two and with many divisors.
func numbers() []int64 {
	l := []int64{0, 1, 2, 3, 4, 5, 6, 7, 12, 30, 97, 2520, 1000003, 1 << 31, 1<<31 - 1, 1<<32 + 1, 3037000499, 3037000500, 4294967291, 1 << 53, 1<<53 + 1, 1 << 61, 1<<62 - 1, 1 << 62, 1<<62 + 1, 3 << 61, 6148914691236517205, 7540113804746346429, 4660046610375530309, most / 7, most - 2, most - 1, most}
	for _, n := range l {
		l = append(l, -n)
	}
	return append(l, least, least+1, least/3, least/2+1)
}

// fractions are all that may be of some numerators over some denominators.
func fractions() []rat.R {
	ups := []int64{0, 1, -1, 2, -2, 3, -5, 6, 1000003, -1 << 31, 1<<32 + 1, 1 << 62, -1 << 62, most / 7, most - 1, 1 - most, most, -most, least}
	downs := []int64{1, 2, 3, 4, 6, 7, 12, 1000003, 1 << 31, 3037000500, 1 << 62, most / 7, most - 2, most - 1, most}
	l := []rat.R{}
	for _, n := range ups {
		for _, d := range downs {
			if a := r(n, d); mayBe(a) {
				l = append(l, a)
			}
		}
	}
	return l
}

// some are few enough to be taken three by three.
func some() []rat.R {
	return []rat.R{r(least, 1), r(-most, 1), r(-7, 2), r(-1, 1), r(-1, 2), r(-1, most), r(0, 1), r(1, most), r(1, most-1), r(1, 1<<62), r(1, 3), r(1, 2), r(2, 3), r(1<<31, 1<<31+1), r(1, 1), r(most, most-1), r(most-1, most-2), r(2, 1), r(most, 2), r(1<<62, 1), r(most-1, 1), r(most, 1)}
}

// mayNot are fractions that may not be, each for one reason or several.
func mayNot() []rat.R {
	return []rat.R{{}, r(1, 0), r(-1, 0), r(least, 0), r(most, 0), r(0, 2), r(0, most), r(0, -1), r(0, least), r(1, -1), r(1, -2), r(-1, -2), r(1, least), r(least, -1), r(least, least), r(2, 4), r(-2, 4), r(3, 3), r(6, 3), r(least, 2), r(least, 1<<62), r(most, 7), r(most, most), r(1<<62, 1<<61)}
}

func mayBe(a rat.R) bool {
	if a.D <= 0 {
		return false
	}
	q := exact(a)
	return q.Num().Int64() == a.N && q.Denom().Int64() == a.D
}

// stream is a fixed row of numbers that look like none, small and great ones.
func stream() func() int64 {
	state := uint64(88172645463325252)
	return func() int64 {
		state ^= state << 13
		state ^= state >> 7
		state ^= state << 17
		return int64(state) >> (state % 61)
	}
}

// TestOfExamples: P1.1, the table's.
func TestOfExamples(t *testing.T) {
	for _, c := range []struct {
		n, d int64
		want rat.R
		e    api.Errno
	}{
		{2, -4, r(-1, 2), api.OK},
		{0, -7, r(0, 1), api.OK},
		{1, 0, rat.R{}, api.ErrZero},
		{0, 0, rat.R{}, api.ErrZero},
		{least, 0, rat.R{}, api.ErrZero},
		{least, -1, rat.R{}, api.ErrOver},
		{least, 1 << 62, r(-2, 1), api.OK},
		{least, least, r(1, 1), api.OK},
		{1, least, rat.R{}, api.ErrOver},
		{2, least, r(-1, 1<<62), api.OK},
		{0, least, r(0, 1), api.OK},
		{most, least, rat.R{}, api.ErrOver},
		{least, most, r(least, most), api.OK},
		{least, -most, rat.R{}, api.ErrOver},
		{least, 1, r(least, 1), api.OK},
		{least, -2, r(1<<62, 1), api.OK},
		{-most, -1, r(most, 1), api.OK},
		{6, 4, r(3, 2), api.OK},
	} {
		if got, e := rat.Of(c.n, c.d); got != c.want || e != c.e {
			t.Errorf("Of(%d, %d) = %v, %d, want %v, %d", c.n, c.d, got, e, c.want, c.e)
		}
	}
}

// TestOfAll: P1.1, held against exact reckoning.
func TestOfAll(t *testing.T) {
	check := func(n, d int64) {
		want, wrong := rat.R{}, api.ErrZero
		if d != 0 {
			want, wrong = told(big.NewRat(n, 1).Quo(big.NewRat(n, 1), big.NewRat(d, 1)))
		}
		if got, e := rat.Of(n, d); got != want || e != wrong {
			t.Errorf("Of(%d, %d) = %v, %d, want %v, %d", n, d, got, e, want, wrong)
		}
	}
	for _, n := range numbers() {
		for _, d := range numbers() {
			check(n, d)
		}
	}
	next := stream()
	for range 20000 {
		check(next(), next())
	}
}

// TestReckonExamples: P1.2, the table's.
func TestReckonExamples(t *testing.T) {
	for i, c := range []struct {
		does reckon
		a, b rat.R
		want rat.R
		e    api.Errno
	}{
		{rat.Add, r(1, 2), r(1, 3), r(5, 6), api.OK},
		{rat.Add, r(1, 6), r(1, 3), r(1, 2), api.OK},
		{rat.Sub, r(1, 2), r(1, 2), r(0, 1), api.OK},
		{rat.Mul, r(2, 3), r(3, 2), r(1, 1), api.OK},
		{rat.Div, r(1, 2), r(-1, 4), r(-2, 1), api.OK},
		{rat.Add, r(most, 1), r(1, 1), rat.R{}, api.ErrOver},
		{rat.Mul, r(1<<62, 1), r(2, 1), rat.R{}, api.ErrOver},
		{rat.Mul, r(1, 1<<62), r(1, 2), rat.R{}, api.ErrOver},
		{rat.Add, r(most, 2), r(most, 2), r(most, 1), api.OK},
		{rat.Add, r(1, most), r(1, most-1), rat.R{}, api.ErrOver},
		{rat.Add, r(2, 4), r(1, 1), rat.R{}, api.ErrArg},
		{rat.Div, r(1, 2), r(0, 1), rat.R{}, api.ErrZero},
		{rat.Div, r(0, 1), r(0, 1), rat.R{}, api.ErrZero},
		{rat.Div, r(2, 4), r(0, 1), rat.R{}, api.ErrArg},
		{rat.Div, r(1, 2), r(0, 2), rat.R{}, api.ErrArg},
		{rat.Div, r(1, 2), r(0, 0), rat.R{}, api.ErrArg},
		{rat.Sub, r(-1, 1), r(least, 1), r(most, 1), api.OK},
		{rat.Sub, r(0, 1), r(least, 1), rat.R{}, api.ErrOver},
		{rat.Sub, r(least, 1), r(least, 1), r(0, 1), api.OK},
		{rat.Sub, r(least, 1), r(1, 1), rat.R{}, api.ErrOver},
		{rat.Div, r(least, 1), r(least, 1), r(1, 1), api.OK},
		{rat.Div, r(least, 1), r(-1, 1), rat.R{}, api.ErrOver},
		{rat.Div, r(2, 1), r(least, 1), r(-1, 1<<62), api.OK},
		{rat.Div, r(1, 1), r(least, 1), rat.R{}, api.ErrOver},
		{rat.Mul, r(least, most), r(most, 1), r(least, 1), api.OK},
		{rat.Mul, r(-1<<62, 1), r(2, 1), r(least, 1), api.OK},
		{rat.Mul, r(most, most-1), r(most-1, most), r(1, 1), api.OK},
		{rat.Div, r(most, most-1), r(most, most-1), r(1, 1), api.OK},
		{rat.Sub, r(most, most-1), r(most, most-1), r(0, 1), api.OK},
	} {
		if got, e := c.does(c.a, c.b); got != c.want || e != c.e {
			t.Errorf("%d: %v and %v: %v, %d, want %v, %d", i, c.a, c.b, got, e, c.want, c.e)
		}
	}
}

func checkReckon(t *testing.T, o operation, a, b rat.R) {
	t.Helper()
	want, wrong := rat.R{}, api.ErrZero
	if o.name != "Div" || b.N != 0 {
		want, wrong = told(o.big(new(big.Rat), exact(a), exact(b)))
	}
	if got, e := o.does(a, b); got != want || e != wrong {
		t.Errorf("%s(%v, %v) = %v, %d, want %v, %d", o.name, a, b, got, e, want, wrong)
	}
}

// TestReckonAll: P1.2, held against exact reckoning; many are beyond 64 bits on the way alone.
func TestReckonAll(t *testing.T) {
	for _, o := range operations() {
		for _, a := range fractions() {
			for _, b := range fractions() {
				checkReckon(t, o, a, b)
			}
		}
		next := stream()
		drawn := func() rat.R {
			for {
				if a, e := rat.Of(next(), next()); e == api.OK {
					return a
				}
			}
		}
		for range 20000 {
			checkReckon(t, o, drawn(), drawn())
		}
	}
}

// TestReckonOnTheWay: P1.2, sums and products that fit, of denominators whose product does not.
func TestReckonOnTheWay(t *testing.T) {
	next := stream()
	met := 0
	for range 40000 {
		a, e := rat.Of(next(), most/7)
		if e != api.OK {
			t.Fatalf("Of: %d", e)
		}
		b, e := rat.Of(next(), most/49)
		if e != api.OK {
			t.Fatalf("Of: %d", e)
		}
		for _, o := range operations() {
			checkReckon(t, o, a, b)
		}
		if _, e := rat.Add(a, b); e == api.OK {
			met++
		}
	}
	if met == 0 {
		t.Error("no sum fits")
	}
}

// TestReckonWrong: P1.2, a fraction that may not be, on either side, ahead of all else.
func TestReckonWrong(t *testing.T) {
	for _, o := range operations() {
		for _, a := range mayNot() {
			for _, b := range append(mayNot(), some()...) {
				if got, e := o.does(a, b); got != (rat.R{}) || e != api.ErrArg {
					t.Errorf("%s(%v, %v) = %v, %d", o.name, a, b, got, e)
				}
				if got, e := o.does(b, a); got != (rat.R{}) || e != api.ErrArg {
					t.Errorf("%s(%v, %v) = %v, %d", o.name, b, a, got, e)
				}
			}
		}
	}
}

// TestCompareAll: P1.3, the table's, and held against exact reckoning.
func TestCompareAll(t *testing.T) {
	if got := rat.Compare(r(1, 3), r(1, 2)); got != -1 {
		t.Errorf("Compare(1/3, 1/2) = %d", got)
	}
	if got := rat.Compare(r(most, most-1), r(most-1, most-2)); got != -1 {
		t.Errorf("two just above 1: %d", got)
	}
	for _, a := range append(fractions(), some()...) {
		for _, b := range append(fractions(), some()...) {
			if got, want := rat.Compare(a, b), exact(a).Cmp(exact(b)); got != want {
				t.Errorf("Compare(%v, %v) = %d, want %d", a, b, got, want)
			}
		}
	}
}

// TestCompareWrong: P1.3, a fraction that may not be, on either side.
func TestCompareWrong(t *testing.T) {
	for _, a := range mayNot() {
		for _, b := range append(mayNot(), some()...) {
			if rat.Compare(a, b) != 0 || rat.Compare(b, a) != 0 {
				t.Errorf("Compare(%v, %v) = %d, %d the other way round", a, b, rat.Compare(a, b), rat.Compare(b, a))
			}
		}
	}
}

// TestToldMayBe: P1.4, what is told may be, and so may be handed in again.
func TestToldMayBe(t *testing.T) {
	for _, o := range operations() {
		for _, a := range fractions() {
			for _, b := range fractions() {
				got, e := o.does(a, b)
				if e != api.OK {
					continue
				}
				again, e := rat.Of(got.N, got.D)
				if !mayBe(got) || e != api.OK || again != got {
					t.Errorf("%s(%v, %v) = %v, which may not be", o.name, a, b, got)
				}
			}
		}
	}
}

// TestOrderOfTwo: P1.4, Add and Mul either way, and a - b as a + (-b).
func TestOrderOfTwo(t *testing.T) {
	for _, a := range fractions() {
		for _, b := range fractions() {
			for _, does := range []reckon{rat.Add, rat.Mul} {
				one, e := does(a, b)
				other, wrong := does(b, a)
				if one != other || e != wrong {
					t.Errorf("%v and %v: %v, %d; %v, %d", a, b, one, e, other, wrong)
				}
			}
			if b.N == least {
				continue
			}
			one, e := rat.Sub(a, b)
			other, wrong := rat.Add(a, r(-b.N, b.D))
			if one != other || e != wrong {
				t.Errorf("%v less %v: %v, %d; %v, %d", a, b, one, e, other, wrong)
			}
		}
	}
}

func checkBack(t *testing.T, to, back reckon, a, b rat.R) {
	t.Helper()
	there, e := to(a, b)
	if e != api.OK {
		return
	}
	if got, e := back(there, b); got != a || e != api.OK {
		t.Errorf("%v by %v there and back: %v, %d", a, b, got, e)
	}
}

// TestThereAndBack: P1.4, added and taken away, multiplied and divided.
func TestThereAndBack(t *testing.T) {
	for _, a := range fractions() {
		for _, b := range fractions() {
			checkBack(t, rat.Add, rat.Sub, a, b)
			checkBack(t, rat.Sub, rat.Add, a, b)
			if b.N != 0 {
				checkBack(t, rat.Mul, rat.Div, a, b)
				checkBack(t, rat.Div, rat.Mul, a, b)
			}
		}
	}
}

func sign(n int64) int {
	if n < 0 {
		return -1
	}
	if n > 0 {
		return 1
	}
	return 0
}

// TestCompareIsSign: P1.5, Compare is the sign of a - b, turned with the order of two, 0 of the same alone.
func TestCompareIsSign(t *testing.T) {
	for _, a := range fractions() {
		for _, b := range fractions() {
			got := rat.Compare(a, b)
			if got != -rat.Compare(b, a) || (got == 0) != (a == b) {
				t.Errorf("Compare(%v, %v) = %d", a, b, got)
			}
			if c, e := rat.Sub(a, b); e == api.OK && got != sign(c.N) {
				t.Errorf("Compare(%v, %v) = %d, a - b = %v", a, b, got, c)
			}
		}
	}
}

// TestCompareOfThree: P1.5, Compare is an order, and goes with adding.
func TestCompareOfThree(t *testing.T) {
	for _, a := range some() {
		for _, b := range some() {
			for _, c := range some() {
				if rat.Compare(a, b) <= 0 && rat.Compare(b, c) <= 0 && rat.Compare(a, c) > 0 {
					t.Errorf("%v, %v, %v are in no order", a, b, c)
				}
				one, e := rat.Add(a, c)
				other, wrong := rat.Add(b, c)
				if e != api.OK || wrong != api.OK {
					continue
				}
				if rat.Compare(one, other) != rat.Compare(a, b) {
					t.Errorf("%v, %v: adding %v changes their order", a, b, c)
				}
			}
		}
	}
}
