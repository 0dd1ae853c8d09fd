package engine_test

import (
	"reflect"
	"slices"
	"strings"
	"testing"
	"unsafe"

	"custos/api"
	"custos/ast"
	"custos/engine"
	"custos/static"
	"custos/table"
	"custos/typing"
)

// pointsCopied is a log in memory of its own.
func pointsCopied(log []api.Point) []api.Point {
	log = slices.Clone(log)
	for i := range log {
		log[i].Events = slices.Clone(log[i].Events)
		for k := range log[i].Events {
			log[i].Events[k].Args = slices.Clone(log[i].Events[k].Args)
		}
	}
	return log
}

// TestHangsOn: P17.4: an answer hangs on no point behind the one by which it is due, and of that one on the time alone.
func TestHangsOn(t *testing.T) {
	t.Parallel()
	s := stream(172)
	told := 0
	for range 1500 {
		sig := s.signature()
		f := s.made(sig, s.vars(), 5)
		log := s.log(sig)
		all := watch(t, sig, f, log)
		reach, _ := static.Reach(f)
		for n := range log {
			other := pointsCopied(log[:n+1])
			other[n].Events = s.point(sig, 0).Events
			for range s.below(4) {
				other = append(other, s.point(sig, other[len(other)-1].Time+int64(s.below(3))))
			}
			due := 0
			for due < n && log[n].Time > log[due].Time+reach {
				due++
			}
			if other[len(other)-1].Time > api.MaxTime || due > len(all) {
				continue
			}
			if got := watch(t, sig, f, other); len(got) < due || !sameCells(got[:due], all[:due]) {
				t.Fatalf("%s over %v: %s; over %v: %s; the first %d are to be the same", textOf(f), log, textOfCells(all), other, textOfCells(got), due)
			}
			told += due
		}
	}
	if told < 5000 {
		t.Error(told)
	}
}

// TestUnion: P17.4: the parts of an Or tell tables whose union is the Or's; it is over where one of them is.
func TestUnion(t *testing.T) {
	t.Parallel()
	s := stream(173)
	told := 0
	for range 3000 {
		sig, l := s.signature(), s.vars()
		f, g := s.made(sig, l, 4), s.made(sig, l, 4)
		h := of(api.Or, f, g)
		if _, e := typing.Infer(sig, h); e != api.OK {
			continue
		}
		log := s.log(sig)
		a, b, both := watch(t, sig, f, log), watch(t, sig, g, log), watch(t, sig, h, log)
		for i, c := range both {
			switch {
			case c.over != (a[i].over || b[i].over):
				t.Fatalf("%s over %v: %s; its parts: %s; %s", textOf(h), log, textOfCells(both), textOfCells(a), textOfCells(b))
			case !c.over && !table.Same(c.table, must(table.Union(a[i].table, b[i].table))):
				t.Fatalf("%s over %v: %s; its parts: %s; %s", textOf(h), log, textOfCells(both), textOfCells(a), textOfCells(b))
			}
			told++
		}
	}
	if told < 5000 {
		t.Error(told)
	}
}

// TestClone: R5: each of an engine and its clones goes on as if it were alone, whenever it was cloned, in whatever order they go on.
func TestClone(t *testing.T) {
	t.Parallel()
	s := stream(174)
	told := 0
	for range 2000 {
		sig := s.signature()
		f := s.made(sig, s.vars(), 5)
		log := s.log(sig)
		whole := watch(t, sig, f, log)
		n := s.below(len(log) + 1)
		e := begun(t, sig, f)
		ahead := goOn(t, e, sig, f, log[:n], 0)
		if e.Err() != api.OK {
			isCloneOfMet(t, e)
			continue
		}
		// The clone goes on over another log; it was cloned, too; and then the first one goes on.
		other := pointsCopied(log[:n])
		for range s.below(5) {
			var time int64
			if len(other) > 0 {
				time = other[len(other)-1].Time
			}
			other = append(other, s.point(sig, min(time+int64(s.below(9)), api.MaxTime)))
		}
		c := e.Clone()
		d := c.Clone()
		if c.Points() != n || c.Told() != len(ahead) || c.Reach() != e.Reach() || c.Err() != api.OK {
			t.Fatal(c.Points(), c.Told(), c.Reach(), c.Err())
		}
		got := append(slices.Clone(ahead), goOn(t, c, sig, f, other, n)...)
		if want := watch(t, sig, f, other); !sameCells(got, want) {
			t.Fatalf("%s over %v, cloned with %d: %s, want %s", textOf(f), other, n, textOfCells(got), textOfCells(want))
		}
		for _, x := range []*engine.Engine{e, d} {
			got := append(slices.Clone(ahead), goOn(t, x, sig, f, log, n)...)
			if !sameCells(got, whole) {
				t.Fatalf("%s over %v, cloned with %d: %s, want %s", textOf(f), log, n, textOfCells(got), textOfCells(whole))
			}
			told += len(got)
		}
	}
	if told < 5000 {
		t.Error(told)
	}
}

// TestCloneWaiting: R5, where much waits: at each point a clone is left behind, and all go on in turn.
func TestCloneWaiting(t *testing.T) {
	t.Parallel()
	s := stream(178)
	sig := signature(t)
	for _, text := range []string{"(soon [0,3] (soon [0,3] (p x)))", "(until [0,4] (not (soon [0,2] (p x))) (soon [0,5] (p x)))", "(until [0,4] (soon [0,2] (p x)) (p x))", "(after [0,4] (seq (test (soon [0,3] (p x))) (star any)))", "(next [0,3] (soon [0,3] (p x)))", "(prev [0,4] (next [0,3] (p x)))", "(let l (x) (soon [0,2] (p x)) (and (once [0,4] (l x)) (not (soon [0,2] (l x)))))", "(letpast l (x) (or (p x) (soon [0,0] (prev [0,4] (l x)))) (soon [0,3] (l x)))", "(join (soon [0,5] (p x)) (before [0,9] (seq (test (p x)) (star any))) (since [0,9] true (p x)))"} {
		f := formula(t, text)
		for range 60 {
			logs := [][]api.Point{nil}
			engines := []*engine.Engine{begun(t, sig, f)}
			got := [][]cell{nil}
			for range 12 {
				k := s.below(len(engines))
				if s.chance(2) {
					engines, logs, got = append(engines, engines[k].Clone()), append(logs, pointsCopied(logs[k])), append(got, slices.Clone(got[k]))
				}
				for k := range engines {
					p := api.Point{Time: pick[int64](&s, 0, 0, 1, 2, 5)}
					if n := len(logs[k]); n > 0 {
						p.Time += logs[k][n-1].Time
					}
					for range s.below(4) {
						p.Events = append(p.Events, event("p", num(int64(s.below(4)))))
					}
					logs[k] = append(logs[k], p)
					got[k] = append(got[k], goOn(t, engines[k], sig, f, logs[k], len(logs[k])-1)...)
				}
			}
			for k := range engines {
				if want := watch(t, sig, f, logs[k]); !sameCells(got[k], want) {
					t.Fatalf("%s over %v: %s, want %s", text, logs[k], textOfCells(got[k]), textOfCells(want))
				}
			}
		}
	}
}

// isCloneOfMet asks that a clone of one that met an error has met it, too.
func isCloneOfMet(t *testing.T, e *engine.Engine) {
	t.Helper()
	c := e.Clone()
	if l, err := c.Step(api.Point{Time: api.MaxTime}); len(l) != 0 || err != api.ErrState || c.Err() != e.Err() || c.Points() != e.Points() || c.Told() != e.Told() || c.Reach() != e.Reach() {
		t.Fatal(l, err, c.Err(), c.Points(), c.Told(), c.Reach())
	}
}

// places are those of all memory that a value reaches, spare room and texts with it.
func places(v reflect.Value, l [][2]uintptr) [][2]uintptr {
	switch v.Kind() {
	case reflect.Struct:
		for i := range v.NumField() {
			l = places(v.Field(i), l)
		}
	case reflect.Slice:
		if v.Cap() > 0 {
			l = append(l, [2]uintptr{v.Pointer(), v.Pointer() + uintptr(v.Cap())*v.Type().Elem().Size()})
		}
		for i := range v.Len() {
			l = places(v.Index(i), l)
		}
	case reflect.String:
		if s := v.String(); s != "" {
			from := uintptr(unsafe.Pointer(unsafe.StringData(s)))
			l = append(l, [2]uintptr{from, from + uintptr(len(s))})
		}
	}
	return l
}

// isNew asks that an answer shares nothing with what is given or was told, nor within itself, and lays it there.
func isNew(t *testing.T, answer any, others *[][2]uintptr) {
	t.Helper()
	for _, a := range places(reflect.ValueOf(answer), nil) {
		if slices.ContainsFunc(*others, func(b [2]uintptr) bool { return a[0] < b[1] && b[0] < a[1] }) {
			t.Fatal("shares memory", answer)
		}
		*others = append(*others, a)
	}
}

// roomy is a list with something in the spare room behind it, and room what stands there.
func roomy[T any](l []T, more T) []T { return append(slices.Grow(slices.Clip(l), 2), more)[:len(l)] }

func room[T any](l []T) T { return l[: len(l)+1 : len(l)+1][len(l)] }

// TestMemory: R4: what is handed in stays as it is, with its spare room, and may be written over behind the call, as what was told may be.
func TestMemory(t *testing.T) {
	t.Parallel()
	s := stream(175)
	for range 1500 {
		sig := s.signature()
		f := s.made(sig, s.vars(), 5)
		log := s.log(sig)
		want := watch(t, sig, f, log)
		ours, given := ast.Clone(f), roomy(slices.Clone(sig), api.Decl{Name: "spare"})
		for i := range given {
			given[i].Kinds = roomy(slices.Clone(given[i].Kinds), 77)
		}
		e := begun(t, given, ours)
		if !ast.Same(ours, f) || room(given).Name != "spare" || !slices.EqualFunc(given, sig, func(a, b api.Decl) bool {
			return a.Name == b.Name && slices.Equal(a.Kinds, b.Kinds) && room(a.Kinds) == 77
		}) {
			t.Fatal(given, textOf(ours))
		}
		for i := range given {
			given[i].Name = "spoilt"
			clear(given[i].Kinds)
		}
		spoil(&ours)
		var got []cell
		var told spoilt
		for _, p := range log {
			got = append(got, told.step(t, e, p)...)
		}
		if !sameCells(got, want) {
			t.Fatalf("%s over %v: %s, want %s", textOf(f), log, textOfCells(got), textOfCells(want))
		}
	}
}

// spoilt is what was told, held on to, so that its memory becomes nobody else's.
type spoilt struct {
	tables []api.Table
	places [][2]uintptr
}

// step takes a point that is written over behind the call, and so are the tables that are told.
func (s *spoilt) step(t *testing.T, e *engine.Engine, p api.Point) []cell {
	t.Helper()
	ours := pointsCopied([]api.Point{p})[0]
	ours.Events = roomy(ours.Events, event("spare"))
	for i := range ours.Events {
		args := roomy(ours.Events[i].Args, num(77))
		for k := range args {
			args[k].S = strings.Clone(args[k].S)
		}
		ours.Events[i].Args = args
	}
	l, err := e.Step(ours)
	isEvent := func(a, b api.Event) bool {
		return a.Name == b.Name && slices.Equal(a.Args, b.Args) && room(a.Args) == num(77)
	}
	if !slices.EqualFunc(ours.Events, p.Events, isEvent) || ours.Time != p.Time || room(ours.Events).Name != "spare" {
		t.Fatal("changed", p, ours)
	}
	others := slices.Concat(s.places, places(reflect.ValueOf(ours), nil))
	isNew(t, l, &others)
	for i := range ours.Events {
		overwrite(ours.Events[i].Args)
		ours.Events[i].Name = "spoilt"
	}
	var got []cell
	for _, v := range l {
		s.places = places(reflect.ValueOf(v.Table), s.places)
		got = append(got, cell{table: must(table.Of(v.Table.Vars, v.Table.Rows))})
		s.tables = append(s.tables, v.Table)
		for _, row := range v.Table.Rows {
			overwrite(row)
		}
		overwrite(v.Table.Rows)
		overwrite(v.Table.Vars)
	}
	if err == api.ErrOver {
		got = append(got, cell{over: true})
	}
	return got
}

// overwrite writes over a list and its spare room.
func overwrite[T any](l []T) { clear(l[:cap(l)]) }

func spoil(f *api.Formula) {
	for i := range f.Subs {
		spoil(&f.Subs[i])
	}
	for i := range f.Regex {
		spoilRegex(&f.Regex[i])
	}
	for i := range f.Terms {
		spoilTerm(&f.Terms[i])
	}
	overwrite(f.Vars)
	overwrite(f.Terms)
	overwrite(f.Subs)
	overwrite(f.Regex)
	*f = api.Formula{}
}

func spoilRegex(r *api.Regex) {
	for i := range r.Test {
		spoil(&r.Test[i])
	}
	for i := range r.Subs {
		spoilRegex(&r.Subs[i])
	}
	overwrite(r.Test)
	overwrite(r.Subs)
}

func spoilTerm(x *api.Term) {
	for i := range x.Subs {
		spoilTerm(&x.Subs[i])
	}
	overwrite(x.Subs)
}

// TestNothing: R3: nil lists and empty ones are the same.
func TestNothing(t *testing.T) {
	f := formula(t, "(or (r) (not (o)))")
	f.Vars, f.Terms, f.Regex = []string{}, []api.Term{}, []api.Regex{}
	f.Subs[0].Terms, f.Subs[0].Subs = []api.Term{}, []api.Formula{}
	sig := signature(t)
	for i := range sig {
		if len(sig[i].Kinds) == 0 {
			sig[i].Kinds = []int{}
		}
	}
	e := begun(t, sig, f)
	for i, p := range []api.Point{{Events: []api.Event{}}, {Events: nil}, {Time: 1, Events: []api.Event{{Name: "r", Args: []api.Value{}}, {Name: "o"}}}, {Time: 2}} {
		l, err := e.Step(p)
		if got := textOfStep(l, err); got != []string{"", "", "0: true | 1: true", "2: true"}[i] {
			t.Error(i, got)
		}
	}
}
