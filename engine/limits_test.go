package engine_test

import (
	"runtime"
	"strings"
	"testing"

	"custos/api"
	"custos/ast"
	"custos/static"
	"custos/typing"
)

// TestRounds: a LetPast whose table at a point hangs on itself there, by a Soon of [0,0] and points at one time: what is
// told is in time, and one of the tables that fit the words, that with the fewest rows.
func TestRounds(t *testing.T) {
	for _, x := range []struct{ f, log, wants string }{
		{"(letpast l (x) (or (p x) (soon [0,0] (prev [0,*] (l x)))) (l x))", "@0 (p 1)\n@0 (p 2)\n@0\n@1 (p 3)\n@2\n@2", "1, 2 | 1, 2 | 1, 2 | 1, 2, 3"},
		{"(letpast l (x) (or (p x) (prev [0,*] (soon [0,0] (l x)))) (l x))", "@0 (p 1)\n@0 (p 2)\n@0 (p 3)\n@1\n@2", "1 | 1, 2, 3 | 1, 2, 3 | 1, 2, 3"},
		{"(letpast l (x) (or (p x) (until [0,0] true (prev [0,*] (l x)))) (l x))", "@0 (p 1)\n@0 (p 2)\n@0\n@1 (p 3)\n@2", "1, 2 | 1, 2 | 1, 2 | 1, 2, 3"},
		{"(letpast l (x) (or (p x) (after [0,0] (seq (star any) (test (prev [0,*] (l x)))))) (l x))", "@0 (p 1)\n@0 (p 2)\n@0\n@1 (p 3)\n@2", "1, 2 | 1, 2 | 1, 2 | 1, 2, 3"},
		{"(letpast l (x) (or (p x) (next [0,0] (prev [0,*] (l x)))) (l x))", "@0 (p 1)\n@0 (p 2)\n@0\n@1 (p 3)\n@2", "1 | 2 | - | 3"},
		{"(letpast l (x) (or (p x) (exists (y) (and (and (soon [0,0] (prev [0,*] (l y))) (= x (+ y 1))) (< x 5)))) (l x))", "@0 (p 1)\n@0\n@1", "1, 2, 3, 4 | 2, 3, 4"},
		{"(letpast l (x) (or (and (p x) (< (+ x 1) 9)) (soon [0,0] (prev [0,*] (l x)))) (l x))", "@0 (p 1)\n@0 (p 9223372036854775807)\n@1 (p 3)\n@2", "1 | over"},
		{"(letpast l (x) (or (p x) (soon [0,0] (prev [0,*] (l x)))) (letpast m (x) (or (and (l x) (< x 2)) (soon [0,0] (prev [0,*] (m x)))) (m x)))", "@0 (p 1)\n@0 (p 2)\n@0\n@1", "1 | 1 | 1"},
		{"(letpast l (x) (letpast m (x) (or (p x) (soon [0,0] (prev [0,*] (l x)))) (or (m x) (prev [0,*] (m x)))) (l x))", "@0 (p 1)\n@0 (p 2)\n@1", "1 | 1, 2"},
		{"(letpast l (x) (or (p x) (exists (y) (and (soon [0,0] (prev [0,*] (l y))) (= x (+ y 4611686018427387904))))) (l x))", "@0 (p -1)\n@1 (p 2)\n@1\n@2", "-1 | over"},
		// Where no two points are at one time it hangs on points ahead alone.
		{"(letpast l (x) (or (p x) (soon [0,0] (prev [0,*] (l x)))) (l x))", "@0 (p 1)\n@1 (p 2)\n@2\n@3", "1 | 1, 2 | 1, 2"},
	} {
		got := watch(t, signature(t), formula(t, x.f), logOf(t, x.log))
		if s := textOfCells(got); s != x.wants {
			t.Errorf("%s over %q: %s, want %s", x.f, x.log, s, x.wants)
		}
	}
	// No table fits the words: something is told, in time, and the same each time.
	f, log := formula(t, "(letpast l () (not (soon [0,0] (prev [0,*] (l)))) (l))"), logOf(t, "@0\n@0\n@0\n@1\n@1\n@2\n@3")
	got := watch(t, signature(t), f, log)
	if len(got) != 6 || textOfCells(got[5:]) != "-" && textOfCells(got[5:]) != "true" || !sameCells(got, watch(t, signature(t), f, log)) {
		t.Error(textOfCells(got))
	}
}

func within(n int, ahead, s, behind string) string {
	return strings.Repeat(ahead, n) + s + strings.Repeat(behind, n)
}

// TestAtTheLimits: formulas with as many nodes, as deep, with as many variables as may be; the farthest reach.
func TestAtTheLimits(t *testing.T) {
	sig := signature(t)
	log := logOf(t, "@0 (p 1) (e 1 2)\n@1 (p 2) (r) (e 2 1)\n@1 (q 1 \"a\")\n@4 (p 1) (e 3 1)\n@9\n@99")
	for text, nodes := range map[string]int{
		within(22, "(once [0,1] ", "(p x)", ")"): 24, within(22, "(soon [0,1] ", "(p x)", ")"): 24, within(22, "(next [0,1] ", "(p x)", ")"): 24, within(22, "(prev [0,1] ", "(p x)", ")"): 24, within(22, "(until [0,2] (not (r)) ", "(p x)", ")"): 68, within(22, "(since [0,2] (not (r)) ", "(p x)", ")"): 68,
		within(11, "(after [0,1] (test ", "(p x)", "))"): 24, within(7, "(before [0,9] (seq any (test ", "(p x)", ")))"): 30, "(join" + strings.Repeat(" (p x)", 127) + ")": 255, "(join" + strings.Repeat(" true", 255) + ")": 256,
		within(21, "(let l (x) (soon [0,1] (p x)) ", "(l x)", ")"): 86, within(22, "(not ", "(r)", ")"): 23, within(23, "(not ", "(r)", ")"): 24, within(10, "(letpast l (x) (or (p x) (prev [0,*] (l x))) (once [0,1] ", "(l x)", "))"): 82,
		"(join (p a) (p b) (p c) (p d) (p f) (p g) (p h) (p i))": 17, "(exists (a b c d f g h i) (join (p a) (p b) (p c) (p d) (p f) (p g) (p h) (p i)))": 18, "(agg n cnt a (b c d f g h i) (join (p a) (p b) (p c) (p d) (p f) (p g) (p h) (p i)))": 18,
	} {
		f := formula(t, text)
		if _, e := typing.Infer(sig, f); e != api.OK || static.Check(f) != api.OK || ast.Nodes(f) != nodes {
			t.Errorf("%s: %d, %d, %d nodes", text, e, static.Check(f), ast.Nodes(f))
			continue
		}
		want, ok := meaning(sig, f, log)
		if got := watch(t, sig, f, log); !ok || !sameCells(got, want) {
			t.Errorf("%s: %s, want %s", text, textOfCells(got), textOfCells(want))
		}
	}
	far := within(22, "(soon [0,1099511627776] ", "(p x)", ")")
	e := begun(t, sig, formula(t, far))
	if e.Reach() != 22*api.MaxTime {
		t.Error(e.Reach())
	}
	for _, time := range []int64{0, 1, api.MaxTime, api.MaxTime} {
		if l, err := e.Step(api.Point{Time: time}); len(l) != 0 || err != api.OK {
			t.Error(l, err)
		}
	}
	if e.Points() != 4 || e.Told() != 0 {
		t.Error(e.Points(), e.Told())
	}
}

// busy is a point at which much happens.
func (s *stream) busy(time int64, n int) api.Point {
	p := api.Point{Time: time}
	for range n {
		p.Events = append(p.Events, event("p", num(int64(s.below(50)))), event("e", num(int64(s.below(50))), num(1)))
	}
	return p
}

// TestInTime: R6: long logs are gone through in time, also where parts wait for one another, and nothing is kept that
// makes each step longer than the one ahead.
func TestInTime(t *testing.T) {
	t.Parallel()
	for _, text := range []string{
		"(soon [0,50] (soon [0,50] (p x)))", "(until [0,50] (not (soon [0,50] (e x 1))) (soon [0,9] (p x)))", "(until [0,50] (soon [0,9] (p x)) (soon [0,50] (p x)))", "(next [0,9] (soon [0,50] (p x)))", "(after [0,20] (seq (test (soon [0,20] (p x))) (seq (star any) (test (p x)))))",
		"(letpast l (x) (or (p x) (prev [0,*] (l x))) (since [0,90] (not (p x)) (l x)))", "(agg n cnt x () (once [0,99] (p x)))", within(22, "(once [0,3] ", "(p x)", ")"), "(soon [0,1099511627776] (soon [0,50] (p x)))",
	} {
		s := stream(176)
		e := begun(t, signature(t), formula(t, text))
		for i := range api.MaxPoints {
			if _, err := e.Step(s.busy(int64(i), 3)); err != api.OK {
				t.Fatal(text, i, err)
			}
		}
		if n := int(max(0, api.MaxPoints-1-e.Reach())); e.Told() != n {
			t.Errorf("%s: %d, want %d", text, e.Told(), n)
		}
	}
}

// TestKept: what was told is kept no longer, nor is what nobody can ask for.
func TestKept(t *testing.T) {
	heap := func() uint64 {
		runtime.GC()
		var m runtime.MemStats
		runtime.ReadMemStats(&m)
		return m.HeapAlloc
	}
	for _, text := range []string{"(let l (x y) (e x y) (and (l x y) (l y x)))", "(let l (x y) (soon [0,9] (e x y)) (l x y))", "(until [0,9] (soon [0,9] (e x y)) (e x y))", "(prev [0,*] (next [0,9] (e x y)))", "(after [0,9] (seq (test (soon [0,9] (e x y))) any))", "(and (e x y) (p x))", "(once [0,9] (e x y))", "(letpast l (x y) (or (e x y) (and (prev [0,*] (l x y)) (< x 0))) (l x y))"} {
		e := begun(t, signature(t), formula(t, text))
		s := stream(177)
		var before uint64
		for i := range 3000 {
			if i == 100 {
				before = heap()
			}
			if _, err := e.Step(s.busy(int64(i), 30)); err != api.OK {
				t.Fatal(text, err)
			}
		}
		if after := heap(); after > before+1<<20 {
			t.Errorf("%s: %d bytes, and %d behind many points more", text, before, after)
		}
		if e.Points() != 3000 {
			t.Error(e.Points())
		}
	}
}

// TestGreat: R6: tables of nearly 2^16 rows; none that nobody asks for is made.
func TestGreat(t *testing.T) {
	t.Parallel()
	var many api.Point
	for i := range int64(40) {
		many.Events = append(many.Events, event("p", num(i)))
	}
	all := "(join (p x) (p y) (p z))"
	greater := "(join (p a) (p b) (p c) (p d) (p f) (p g) (p h) (p i))"
	for text, rows := range map[string]int{
		all: 64000, "(exists (z) " + all + ")": 1600, "(and " + all + " (not (p x)))": 0, "(agg n cnt x () " + all + ")": 1, "(agg n cnt x (y z) " + all + ")": 1600, "(let l (x y z) " + all + " (l z 5 z))": 40, "(next [0,0] " + all + ")": 64000, "(since [0,*] (not (p y)) " + all + ")": 64000,
		"(let l (a b c) (exists (d f g h i) " + greater + ") (p x))": 40, "(let l (a b c) (exists (d f g h i) " + greater + ") (let m (x) (exists (b c) (l x b c)) (p x)))": 40,
	} {
		e := begun(t, signature(t), formula(t, text))
		var told []api.Verdict
		for _, time := range []int64{0, 0, 1} {
			many.Time = time
			l, err := e.Step(many)
			if err != api.OK {
				t.Fatal(text, err)
			}
			told = append(told, l...)
		}
		if len(told) != 2 || len(told[0].Table.Rows) != rows {
			t.Errorf("%s: %d answers, %d rows, want %d", text, len(told), len(told[0].Table.Rows), rows)
		}
	}
}
