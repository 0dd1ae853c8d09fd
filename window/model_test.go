package window_test

import (
	"strconv"
	"testing"

	"custos/api"
	"custos/window"
)

// stream is numbers that look as if by chance, the same at each run.
type stream uint64

func (s *stream) next() uint64 {
	x := uint64(*s)
	x ^= x << 13
	x ^= x >> 7
	x ^= x << 17
	*s = stream(x)
	return x
}

func (s *stream) below(n int) int { return int(s.next() % uint64(n)) }

func (s *stream) chance(n int) bool { return s.below(n) == 0 }

// pair is a window and, beside it, the things that must be there by the promises' own words.
type pair[T any] struct {
	w       *window.Window[T]
	op      func(a, b T) T
	nothing T
	row     []T
	made    *int // how often the window and its clones have called op
	own     int  // how often this one has
	taken   int
	asked   int
}

func newPair[T any](op func(a, b T) T, nothing T) *pair[T] {
	made := new(int)
	counted := func(a, b T) T { *made++; return op(a, b) }
	return &pair[T]{w: window.New(counted, nothing), op: op, nothing: nothing, made: made}
}

// during does what it is told, and sees to Len and Calls behind it.
func (p *pair[T]) during(t *testing.T, do func()) {
	t.Helper()
	before := *p.made
	do()
	p.own += *p.made - before
	if got := p.w.Len(); got != len(p.row) {
		t.Fatalf("Len %d, want %d", got, len(p.row))
	}
	if got := p.w.Calls(); got != p.own {
		t.Fatalf("Calls %d, want %d", got, p.own)
	}
	if p.own > 2*p.taken+p.asked {
		t.Fatalf("Calls %d, behind %d Pushes and %d of All", p.own, p.taken, p.asked)
	}
}

func (p *pair[T]) push(t *testing.T, x T) {
	t.Helper()
	p.during(t, func() {
		want := api.OK
		if len(p.row) == api.MaxWindow {
			want = api.ErrMany
		} else {
			p.row = append(p.row[:len(p.row):len(p.row)], x)
			p.taken++
		}
		if e := p.w.Push(x); e != want {
			t.Fatalf("Push: %d, want %d", e, want)
		}
	})
}

func (p *pair[T]) pop(t *testing.T, same func(a, b T) bool) {
	t.Helper()
	p.during(t, func() {
		var want T
		err := api.ErrEmpty
		if len(p.row) > 0 {
			want, p.row, err = p.row[0], p.row[1:], api.OK
		}
		if x, e := p.w.Pop(); e != err || !same(x, want) {
			t.Fatalf("Pop: %v, %d, want %v, %d", x, e, want, err)
		}
	})
}

// fold is P11.3 as it stands there.
func (p *pair[T]) fold() T {
	if len(p.row) == 0 {
		return p.nothing
	}
	x := p.row[0]
	for _, y := range p.row[1:] {
		x = p.op(x, y)
	}
	return x
}

func (p *pair[T]) all(t *testing.T, same func(a, b T) bool) {
	t.Helper()
	p.during(t, func() {
		p.asked++
		if got, want := p.w.All(), p.fold(); !same(got, want) {
			t.Fatalf("All: %v, want %v", got, want)
		}
	})
}

func (p *pair[T]) clone(t *testing.T) *pair[T] {
	t.Helper()
	c := *p
	p.during(t, func() { c.w = p.w.Clone() })
	c.during(t, func() {})
	return &c
}

func sameText(a, b string) bool { return a == b }

// TestAllShortWays: every way of at most ten calls of Push, Pop and All, with the bound of Calls at each step.
func TestAllShortWays(t *testing.T) {
	const calls = 10
	ways := 1
	for range calls {
		ways *= 3
	}
	for way := range ways {
		p := newPair(together, "-")
		for i, rest := 0, way; i < calls; i, rest = i+1, rest/3 {
			switch rest % 3 {
			case 0:
				p.push(t, string(rune('a'+i)))
			case 1:
				p.pop(t, sameText)
			case 2:
				p.all(t, sameText)
			}
		}
		p.all(t, sameText)
		if t.Failed() {
			t.Fatal("way", way)
		}
	}
}

// TestAllShortWaysOfClones: every way of at most four calls, then a clone, then at most three calls on each in turn.
func TestAllShortWaysOfClones(t *testing.T) {
	do := func(p *pair[string], what int, x string) {
		switch what {
		case 0:
			p.push(t, x)
		case 1:
			p.pop(t, sameText)
		case 2:
			p.all(t, sameText)
		}
	}
	for way := range 81 * 9 * 9 * 9 {
		p, rest := newPair(together, "-"), way
		// Things enough that some of them can have gone and some be there still.
		for i := range 3 {
			p.push(t, string(rune('p'+i)))
		}
		for i := range 4 {
			do(p, rest%3, string(rune('a'+i)))
			rest /= 3
		}
		c := p.clone(t)
		for i := range 3 {
			do(p, rest%3, string(rune('e'+i)))
			do(c, rest/3%3, string(rune('E'+i)))
			rest /= 9
		}
		p.all(t, sameText)
		c.all(t, sameText)
		if t.Failed() {
			t.Fatal("way", way)
		}
	}
}

// TestLongWays: many rounds, that fill, empty, stay, ask often or seldom, with clones that go on beside.
func TestLongWays(t *testing.T) {
	times := func(a, b [2]uint64) [2]uint64 { return [2]uint64{a[0] * b[0], a[1]*b[0] + b[1]} }
	same := func(a, b [2]uint64) bool { return a == b }
	for seed := range 60 {
		s := stream(seed*7919 + 1)
		l := []*pair[[2]uint64]{newPair(times, [2]uint64{9, 9})}
		pushes, pops, asks := 1+s.below(6), 1+s.below(6), 1+s.below(6)
		for range 2000 {
			if s.chance(150) {
				pushes, pops, asks = 1+s.below(6), 1+s.below(6), s.below(6)
			}
			p := l[s.below(len(l))]
			switch n := s.below(pushes + pops + asks); {
			case n < pushes:
				p.push(t, [2]uint64{s.next(), s.next()})
			case n < pushes+pops:
				p.pop(t, same)
			default:
				p.all(t, same)
			}
			if s.chance(300) {
				l = append(l, p.clone(t))
			}
		}
		for _, p := range l {
			p.all(t, same)
			for range len(p.row) + 1 {
				p.pop(t, same)
			}
			p.all(t, same)
		}
	}
}

// TestCallsAreFew: P11.4 at every step of those ways that cost most: windows that stay full, Pops between two calls of
// All, All again and again without a change.
func TestCallsAreFew(t *testing.T) {
	same := func(a, b int) bool { return a == b }
	for _, n := range []int{1, 2, 3, 4, 7, 64, api.MaxWindow} {
		for _, asks := range []int{0, 1, 3} {
			t.Run(strconv.Itoa(n)+" "+strconv.Itoa(asks), func(t *testing.T) {
				p := newPair(func(a, b int) int { return max(a, b) }, -1)
				ask := func() {
					// The model's own fold is too slow to be asked each time in a great window.
					for range asks {
						p.during(t, func() { p.asked++; p.w.All() })
					}
				}
				for i := range n {
					p.push(t, i*7919%1009)
					ask()
				}
				p.push(t, 5)
				p.all(t, same)
				for i := range 3*n + 10 {
					p.pop(t, same)
					ask()
					p.push(t, i*31%1009)
					ask()
				}
				p.all(t, same)
				for range 2 {
					for range n/2 + 1 {
						p.pop(t, same)
						ask()
					}
					for i := range n {
						p.push(t, i)
						ask()
					}
					p.all(t, same)
				}
				for range len(p.row) + 1 {
					p.pop(t, same)
					ask()
				}
				p.all(t, same)
			})
		}
	}
}

// TestAsNewOne: P11.6: All is what a new window tells of just those things; asking changes nothing but Calls.
func TestAsNewOne(t *testing.T) {
	s := stream(77)
	asked, silent := window.New(together, "-"), window.New(together, "-")
	var row []string
	for i := range 3000 {
		if s.below(100) < 35+30*(i/200%2) {
			x := strconv.Itoa(i) + " "
			row = append(row, x)
			if e, f := asked.Push(x), silent.Push(x); e != api.OK || f != api.OK {
				t.Fatal(e, f)
			}
		} else {
			row = row[min(1, len(row)):]
			x, e := asked.Pop()
			y, f := silent.Pop()
			if x != y || e != f {
				t.Fatal(i, x, e, y, f)
			}
		}
		fresh := window.New(together, "-")
		for _, x := range row {
			fresh.Push(x)
		}
		want := fresh.All()
		for range 1 + s.below(3) {
			if got := asked.All(); got != want {
				t.Fatalf("step %d: %q, want %q", i, got, want)
			}
		}
		if asked.Len() != len(row) || silent.Len() != len(row) {
			t.Fatal(i, asked.Len(), silent.Len(), len(row))
		}
		if i%100 == 0 && silent.Clone().All() != want {
			t.Fatal(i, silent.Clone().All(), want)
		}
	}
}

// TestOneAnswer: R5: the same calls, the same answers, Calls among them.
func TestOneAnswer(t *testing.T) {
	tell := func() []string {
		s, w := stream(3), window.New(together, "-")
		var l []string
		for i := range 500 {
			switch s.below(5) {
			case 0, 1:
				w.Push(strconv.Itoa(i))
			case 2:
				x, e := w.Pop()
				l = append(l, x, strconv.Itoa(int(e)))
			case 3:
				l = append(l, w.All())
			case 4:
				w = w.Clone()
			}
			l = append(l, strconv.Itoa(w.Calls()))
		}
		return l
	}
	a, b := tell(), tell()
	for i := range a {
		if a[i] != b[i] {
			t.Fatal(i, a[i], b[i])
		}
	}
}
