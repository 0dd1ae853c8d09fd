package window_test

import (
	"math"
	"runtime"
	"slices"
	"strings"
	"testing"
	"weak"

	"custos/api"
	"custos/window"
)

func together(a, b string) string { return a + b }

// act is one call on a window of texts, and what it must answer.
type act struct {
	call string // push, pop, all, len, calls
	x    string // what is pushed, popped or told
	n    int    // what Len or Calls tells
	e    api.Errno
}

func runActs(t *testing.T, w *window.Window[string], l []act) {
	t.Helper()
	for i, a := range l {
		got := act{call: a.call}
		switch a.call {
		case "push":
			got.x, got.e = a.x, w.Push(a.x)
		case "pop":
			got.x, got.e = w.Pop()
		case "all":
			got.x = w.All()
		case "len":
			got.n = w.Len()
		case "calls":
			got.n = w.Calls()
		}
		if got != a {
			t.Fatalf("act %d: %+v, want %+v", i, got, a)
		}
	}
}

// TestExamples: the chapter's table.
func TestExamples(t *testing.T) {
	runActs(t, window.New(together, "-"), []act{
		{call: "all", x: "-"}, {call: "pop", e: api.ErrEmpty},
		{call: "push", x: "a"}, {call: "all", x: "a"}, {call: "calls", n: 0},
		{call: "push", x: "b"}, {call: "push", x: "c"}, {call: "all", x: "abc"},
		{call: "pop", x: "a"}, {call: "all", x: "bc"}, {call: "push", x: "d"}, {call: "all", x: "bcd"}, {call: "len", n: 3},
	})
}

// TestActs: P11.1 to P11.3: none, one, two things; Pop behind the last Push; Pushes behind Pops; emptied and filled again.
func TestActs(t *testing.T) {
	for name, l := range map[string][]act{
		"new": {{call: "len"}, {call: "calls"}, {call: "all", x: "-"}, {call: "len"}, {call: "calls"}},
		"one": {{call: "push", x: "a"}, {call: "len", n: 1}, {call: "all", x: "a"}, {call: "calls"}, {call: "pop", x: "a"}, {call: "len"}},
		"two": {{call: "push", x: "a"}, {call: "push", x: "b"}, {call: "len", n: 2}, {call: "all", x: "ab"}},
		"two, of which one has gone": {{call: "push", x: "a"}, {call: "push", x: "b"}, {call: "pop", x: "a"},
			{call: "all", x: "b"}, {call: "len", n: 1}, {call: "pop", x: "b"}, {call: "all", x: "-"}},
		"pushes behind pops": {{call: "push", x: "a"}, {call: "push", x: "b"}, {call: "pop", x: "a"}, {call: "push", x: "c"},
			{call: "push", x: "d"}, {call: "all", x: "bcd"}, {call: "pop", x: "b"}, {call: "all", x: "cd"},
			{call: "push", x: "e"}, {call: "all", x: "cde"}, {call: "pop", x: "c"}, {call: "pop", x: "d"}, {call: "all", x: "e"}},
		"emptied and filled": {{call: "push", x: "a"}, {call: "push", x: "b"}, {call: "all", x: "ab"}, {call: "pop", x: "a"},
			{call: "pop", x: "b"}, {call: "pop", e: api.ErrEmpty}, {call: "all", x: "-"}, {call: "push", x: "c"},
			{call: "all", x: "c"}, {call: "push", x: "d"}, {call: "all", x: "cd"}, {call: "len", n: 2}},
		"filled right behind All of none": {{call: "push", x: "a"}, {call: "pop", x: "a"}, {call: "all", x: "-"},
			{call: "push", x: "b"}, {call: "all", x: "b"}, {call: "pop", x: "b"}, {call: "all", x: "-"}},
		"emptied right behind All": {{call: "push", x: "a"}, {call: "all", x: "a"}, {call: "pop", x: "a"},
			{call: "push", x: "b"}, {call: "all", x: "b"}},
		"empty over and over": {{call: "pop", e: api.ErrEmpty}, {call: "pop", e: api.ErrEmpty}, {call: "push", x: "a"},
			{call: "pop", x: "a"}, {call: "pop", e: api.ErrEmpty}, {call: "pop", e: api.ErrEmpty}, {call: "len"}, {call: "calls"},
			{call: "push", x: "b"}, {call: "all", x: "b"}},
		"things that are nothing's like": {{call: "push", x: ""}, {call: "all", x: ""}, {call: "len", n: 1}, {call: "push", x: "-"},
			{call: "all", x: "-"}, {call: "pop", x: ""}, {call: "all", x: "-"}, {call: "len", n: 1}, {call: "pop", x: "-"}},
		"the same thing twice": {{call: "push", x: "a"}, {call: "push", x: "a"}, {call: "all", x: "aa"}, {call: "pop", x: "a"},
			{call: "all", x: "a"}},
		"all again": {{call: "push", x: "a"}, {call: "push", x: "b"}, {call: "push", x: "c"}, {call: "pop", x: "a"}, {call: "push", x: "d"},
			{call: "all", x: "bcd"}, {call: "all", x: "bcd"}, {call: "len", n: 3}, {call: "pop", x: "b"}, {call: "all", x: "cd"}, {call: "all", x: "cd"}},
	} {
		t.Run(name, func(t *testing.T) { runActs(t, window.New(together, "-"), l) })
	}
}

// TestNothingIsNotHandedOn: P11.1: op sees things alone, never what All tells of none, nor a zero value.
func TestNothingIsNotHandedOn(t *testing.T) {
	w := window.New(func(a, b string) string {
		if strings.Contains(a+b, "-") || a == "" || b == "" {
			t.Errorf("handed on: %q, %q", a, b)
		}
		return a + b
	}, "-")
	s := stream(5)
	for range 20000 {
		if s.chance(2) {
			w.Push("a")
		} else {
			w.Pop()
		}
		if s.chance(3) {
			w.All()
		}
	}
	for _, nothing := range []string{"", "-", "anything"} {
		if got := window.New(together, nothing).All(); got != nothing {
			t.Errorf("of none: %q, want %q", got, nothing)
		}
	}
}

// span has what is asked of numbers by order and by size at one time.
type span struct {
	first, last, least, most, count int
}

func joinSpans(a, b span) span {
	return span{a.first, b.last, min(a.least, b.least), max(a.most, b.most), a.count + b.count}
}

// TestTypes: P11.2, P11.3, P11.6: things of several types, and operations that go by order.
func TestTypes(t *testing.T) {
	t.Run("structs", func(t *testing.T) {
		var l []span
		for i, x := range []int{5, -3, 8, 8, 0, 2, -9, 4} {
			l = append(l, span{x, x, x, x, i})
		}
		tryType(t, joinSpans, span{first: 99}, l, func(a, b span) bool { return a == b })
	})
	t.Run("arrays", func(t *testing.T) {
		times := func(a, b [4]uint32) [4]uint32 {
			return [4]uint32{a[0]*b[0] + a[1]*b[2], a[0]*b[1] + a[1]*b[3], a[2]*b[0] + a[3]*b[2], a[2]*b[1] + a[3]*b[3]}
		}
		l := [][4]uint32{{1, 1, 0, 1}, {1, 0, 1, 1}, {2, 3, 5, 7}, {0, 1, 1, 0}, {9, 8, 7, 6}}
		tryType(t, times, [4]uint32{1, 0, 0, 1}, l, func(a, b [4]uint32) bool { return a == b })
	})
	t.Run("slices", func(t *testing.T) {
		put := func(a, b []int) []int { return slices.Concat(a, b) }
		tryType(t, put, nil, [][]int{{1}, {2, 3}, {}, {4}, nil, {5, 6, 7}}, slices.Equal)
	})
	t.Run("pointers", func(t *testing.T) {
		put := func(a, b *string) *string { s := *a + *b; return &s }
		var l []*string
		for _, x := range []string{"a", "bc", "", "d"} {
			l = append(l, &x)
		}
		same := func(a, b *string) bool { return a == b || a != nil && b != nil && *a == *b }
		tryType(t, put, nil, l, same)
	})
	t.Run("functions", func(t *testing.T) {
		after := func(a, b func(int) int) func(int) int { return func(x int) int { return b(a(x)) } }
		l := []func(int) int{func(x int) int { return x + 3 }, func(x int) int { return x * 2 }, func(x int) int { return x*x - 1 }}
		same := func(a, b func(int) int) bool {
			return a == nil && b == nil || a != nil && b != nil && a(5) == b(5) && a(-2) == b(-2)
		}
		tryType(t, after, func(x int) int { return 77 }, l, same)
	})
	t.Run("interfaces", func(t *testing.T) {
		put := func(a, b any) any { return a.(string) + b.(string) }
		tryType(t, put, any(7), []any{"x", "y", "z"}, func(a, b any) bool { return a == b })
	})
	t.Run("first", func(t *testing.T) {
		tryType(t, func(a, b int) int { return a }, -1, []int{1, 2, 3, 4}, func(a, b int) bool { return a == b })
	})
	t.Run("last", func(t *testing.T) {
		tryType(t, func(a, b int) int { return b }, -1, []int{1, 2, 3, 4}, func(a, b int) bool { return a == b })
	})
	t.Run("numbers that wrap", func(t *testing.T) {
		tryType(t, func(a, b int64) int64 { return a + b }, 3, []int64{math.MaxInt64, math.MinInt64, 1, -1, 5}, func(a, b int64) bool { return a == b })
	})
	t.Run("no fields", func(t *testing.T) {
		w := window.New(func(a, b struct{}) struct{} { return a }, struct{}{})
		for range 3 {
			w.Push(struct{}{})
		}
		w.Pop()
		if w.Len() != 2 {
			t.Error(w.Len())
		}
	})
}

// tryType goes many rounds through things of one type, beside a row that is reckoned anew at each step.
func tryType[T any](t *testing.T, op func(a, b T) T, nothing T, l []T, same func(a, b T) bool) {
	t.Helper()
	m := newPair(op, nothing)
	s := stream(11)
	for i := range 4000 {
		fill := i/50%2 == 0
		switch {
		case s.chance(4):
			m.all(t, same)
		case fill == s.chance(4):
			m.pop(t, same)
		default:
			m.push(t, l[s.below(len(l))])
		}
		if t.Failed() {
			return
		}
	}
}

// TestFull: P11.2: at MaxWindow things none is taken; behind a Pop one is.
func TestFull(t *testing.T) {
	w := window.New(func(a, b span) span { return joinSpans(a, b) }, span{})
	thing := func(i int) span { return span{i, i, i, i, 1} }
	for i := range api.MaxWindow {
		if e := w.Push(thing(i)); e != api.OK {
			t.Fatal(i, e)
		}
	}
	refuse := func(want span) {
		t.Helper()
		for range 3 {
			calls := w.Calls()
			if e := w.Push(thing(-1)); e != api.ErrMany || w.Len() != api.MaxWindow || w.Calls() != calls {
				t.Fatal(e, w.Len(), w.Calls(), calls)
			}
		}
		if got := w.All(); got != want {
			t.Fatal(got, want)
		}
	}
	refuse(span{0, api.MaxWindow - 1, 0, api.MaxWindow - 1, api.MaxWindow})
	for i := range 3*api.MaxWindow + 5 {
		if x, e := w.Pop(); x != thing(i) || e != api.OK {
			t.Fatal(i, x, e)
		}
		if e := w.Push(thing(api.MaxWindow + i)); e != api.OK {
			t.Fatal(i, e)
		}
		last := api.MaxWindow + i
		refuse(span{i + 1, last, i + 1, last, api.MaxWindow})
	}
	for range api.MaxWindow {
		w.Pop()
	}
	if x, e := w.Pop(); x != (span{}) || e != api.ErrEmpty || w.Len() != 0 {
		t.Error(x, e)
	}
}

// TestEmpty: P11.2: of none ErrEmpty and the zero value, not what All tells, also where things were; nothing has changed.
func TestEmpty(t *testing.T) {
	w := window.New(joinSpans, span{first: 7})
	empty := func() {
		t.Helper()
		calls := w.Calls()
		for range 3 {
			if x, e := w.Pop(); x != (span{}) || e != api.ErrEmpty || w.Len() != 0 || w.Calls() != calls {
				t.Fatal(x, e, w.Len())
			}
		}
		if got := w.All(); got != (span{first: 7}) {
			t.Fatal(got)
		}
	}
	empty()
	for n := range 6 {
		for i := range n {
			w.Push(span{count: i + 1})
		}
		for i := range n {
			if x, e := w.Pop(); x.count != i+1 || e != api.OK {
				t.Fatal(x, e)
			}
		}
		empty()
	}
}

// TestClone: P11.5, R5: a clone goes on by itself, from where the window stands.
func TestClone(t *testing.T) {
	w := window.New(together, "-")
	none := w.Clone()
	for _, x := range []string{"a", "b", "c", "d"} {
		w.Push(x)
	}
	runActs(t, none, []act{{call: "len"}, {call: "calls"}, {call: "all", x: "-"}, {call: "pop", e: api.ErrEmpty}, {call: "push", x: "x"}, {call: "all", x: "x"}})
	w.Pop()
	w.Push("e")
	w.Push("f")
	c, calls := w.Clone(), w.Calls()
	if c == w || c.Calls() != calls {
		t.Error(c.Calls(), calls)
	}
	runActs(t, w, []act{{call: "pop", x: "b"}, {call: "pop", x: "c"}, {call: "push", x: "g"}, {call: "all", x: "defg"}})
	if c.Calls() != calls {
		t.Error("the clone's calls", c.Calls(), calls)
	}
	calls = w.Calls()
	runActs(t, c, []act{{call: "len", n: 5}, {call: "push", x: "h"}, {call: "all", x: "bcdefh"}, {call: "pop", x: "b"}, {call: "pop", x: "c"},
		{call: "pop", x: "d"}, {call: "pop", x: "e"}, {call: "push", x: "i"}, {call: "all", x: "fhi"}})
	if w.Calls() != calls {
		t.Error("the window's calls", w.Calls(), calls)
	}
	runActs(t, w, []act{{call: "all", x: "defg"}, {call: "pop", x: "d"}, {call: "pop", x: "e"}, {call: "pop", x: "f"}, {call: "pop", x: "g"}, {call: "all", x: "-"}})
	runActs(t, c, []act{{call: "all", x: "fhi"}, {call: "pop", x: "f"}, {call: "all", x: "hi"}})
}

// TestCloneSharesNoRoom: P11.5: two that push behind the same things, and pop them, write into rooms of their own.
func TestCloneSharesNoRoom(t *testing.T) {
	for n := range 40 {
		for gone := range n + 1 {
			w := window.New(together, "-")
			for i := range n {
				w.Push(string(rune('a' + i%26)))
			}
			for range gone {
				w.Pop()
			}
			c := w.Clone()
			want := w.All()
			if n == gone {
				want = ""
			}
			w.Push("1")
			c.Push("2")
			c.Push("3")
			w.Push("4")
			if w.All() != want+"14" || c.All() != want+"23" {
				t.Fatal(n, gone, w.All(), c.All())
			}
			for c.Len() > 1 {
				c.Pop()
			}
			for w.Len() > 1 {
				w.Pop()
			}
			if w.All() != "4" || c.All() != "3" {
				t.Fatal(n, gone, w.All(), c.All())
			}
		}
	}
}

// TestCloneHasTheSameOperation: P11.5, P11.4: a clone's calls begin with the window's, and each is a call of op.
func TestCloneHasTheSameOperation(t *testing.T) {
	made := 0
	w := window.New(func(a, b int) int { made++; return max(a, b) }, -7)
	for i := range 10 {
		w.Push(i)
	}
	w.Pop()
	w.All()
	c := w.Clone()
	before, own := made, c.Calls()
	if own != before || w.Calls() != before {
		t.Error(own, before)
	}
	for i := range 10 {
		c.Push(20 + i)
		c.All()
	}
	if c.Calls()-own != made-before || w.Calls() != before || made == before {
		t.Error(c.Calls(), made, w.Calls())
	}
	for c.Len() > 0 {
		c.Pop()
	}
	if c.All() != -7 || w.All() != 9 {
		t.Error(c.All(), w.All())
	}
}

// heavy is a thing that can be seen to be freed.
type heavy struct{ room [64]byte }

// fillAndEmpty has a frame of its own, so that no thing is held by the test's.
func fillAndEmpty(w *window.Window[*heavy], n int, l *[]weak.Pointer[heavy]) {
	for range n {
		x := &heavy{}
		*l = append(*l, weak.Make(x))
		w.Push(x)
	}
	for w.Len() > 0 {
		w.Pop()
	}
}

// TestWhatHasGoneIsNotKept: what was popped, and what op has made of it, can be freed, while the window goes on.
func TestWhatHasGoneIsNotKept(t *testing.T) {
	var l []weak.Pointer[heavy]
	w := window.New(func(a, b *heavy) *heavy {
		x := &heavy{}
		l = append(l, weak.Make(x))
		return x
	}, nil)
	fillAndEmpty(w, 100, &l)
	runtime.GC()
	for i, p := range l {
		if p.Value() != nil {
			t.Error("kept:", i)
		}
	}
	last := &heavy{}
	w.Push(last)
	if w.All() != last || w.Len() != 1 {
		t.Error("what came then")
	}
}
