// Package rat is layer 1: see shared/doc/01-rat.md.
package rat

import (
	"math"
	"math/bits"

	"custos/api"
)

// R is a fraction.
type R struct{ N, D int64 }

// parts is a fraction by its sign and its sizes: -2^63 has a size in 64 bits, and no negative in int64.
type parts struct {
	below bool
	n, d  uint64
}

// wide holds the product of two sizes, or the sum of two such products.
type wide struct{ high, low uint64 }

// Of is n / d.
func Of(n, d int64) (R, api.Errno) {
	if d == 0 {
		return R{}, api.ErrZero
	}
	up, down := size(n), size(d)
	g := divisor(up, down)
	return fit(parts{(n < 0) != (d < 0), up / g, down / g})
}

// Add, Sub, Mul, Div are exact; Compare is -1, 0, 1.
func Add(a, b R) (R, api.Errno) {
	if !may(a) || !may(b) {
		return R{}, api.ErrArg
	}
	return sum(split(a), split(b))
}

func Sub(a, b R) (R, api.Errno) {
	if !may(a) || !may(b) {
		return R{}, api.ErrArg
	}
	x, y := split(a), split(b)
	y.below = !y.below
	return sum(x, y)
}

func Mul(a, b R) (R, api.Errno) {
	if !may(a) || !may(b) {
		return R{}, api.ErrArg
	}
	return product(split(a), split(b))
}

func Div(a, b R) (R, api.Errno) {
	if !may(a) || !may(b) {
		return R{}, api.ErrArg
	}
	nought := R{0, 1}
	if b == nought {
		return R{}, api.ErrZero
	}
	x, y := split(a), split(b)
	y.n, y.d = y.d, y.n
	return product(x, y)
}

func Compare(a, b R) int {
	if a == b || !may(a) || !may(b) {
		return 0
	}
	if less(split(a), split(b)) {
		return -1
	}
	return 1
}

// may goes by the least form: a fraction that may be is the same struct as its own.
func may(a R) bool {
	least, e := Of(a.N, a.D)
	return e == api.OK && least == a
}

func split(a R) parts {
	return parts{a.N < 0, size(a.N), size(a.D)}
}

// fit takes a least form, so that a size beyond int64 is one of the answer's, not of the way to it.
func fit(p parts) (R, api.Errno) {
	most := uint64(math.MaxInt64)
	if p.below {
		most++
	}
	if p.n > most || p.d > math.MaxInt64 {
		return R{}, api.ErrOver
	}
	n := int64(p.n)
	if p.below {
		n = -n
	}
	return R{n, int64(p.d)}, api.OK
}

// size is right of the least int64 too, since what wraps round there is 2^63 without a sign.
func size(n int64) uint64 {
	if n < 0 {
		return -uint64(n)
	}
	return uint64(n)
}

func divisor(a, b uint64) uint64 {
	for b != 0 {
		a, b = b, a%b
	}
	return a
}

// sum divides by what the denominators share ahead of multiplying: so the numerator stays in 128 bits, and only a divisor of what they share is left to be taken out.
func sum(x, y parts) (R, api.Errno) {
	shared := divisor(x.d, y.d)
	below, total := signedSum(x.below, times(x.n, y.d/shared), y.below, times(y.n, x.d/shared))
	left := divisor(bits.Rem64(total.high, total.low, shared), shared)
	if total.high >= left {
		return R{}, api.ErrOver
	}
	n, _ := bits.Div64(total.high, total.low, left)
	d := times(x.d/shared, y.d/left)
	if d.high != 0 {
		return R{}, api.ErrOver
	}
	return fit(parts{below, n, d.low})
}

func signedSum(aBelow bool, a wide, bBelow bool, b wide) (bool, wide) {
	if aBelow == bBelow {
		return aBelow, plus(a, b)
	}
	if lower(a, b) {
		return bBelow, minus(b, a)
	}
	return aBelow, minus(a, b)
}

// product takes common divisors out crosswise, so that what is multiplied is the least form at once.
func product(x, y parts) (R, api.Errno) {
	first, second := divisor(x.n, y.d), divisor(y.n, x.d)
	n := times(x.n/first, y.n/second)
	d := times(x.d/second, y.d/first)
	if n.high != 0 || d.high != 0 {
		return R{}, api.ErrOver
	}
	return fit(parts{x.below != y.below, n.low, d.low})
}

func less(x, y parts) bool {
	if x.below != y.below {
		return x.below
	}
	if x.below {
		x, y = y, x
	}
	return lower(times(x.n, y.d), times(y.n, x.d))
}

func times(a, b uint64) wide {
	high, low := bits.Mul64(a, b)
	return wide{high, low}
}

func plus(a, b wide) wide {
	low, carry := bits.Add64(a.low, b.low, 0)
	high, _ := bits.Add64(a.high, b.high, carry)
	return wide{high, low}
}

func minus(a, b wide) wide {
	low, borrow := bits.Sub64(a.low, b.low, 0)
	high, _ := bits.Sub64(a.high, b.high, borrow)
	return wide{high, low}
}

func lower(a, b wide) bool {
	if a.high != b.high {
		return a.high < b.high
	}
	return a.low < b.low
}
