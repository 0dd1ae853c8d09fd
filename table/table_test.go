package table_test

import (
	"fmt"
	"maps"
	"math"
	"slices"
	"strings"
	"testing"

	"custos/api"
	"custos/table"
	"custos/value"
)

const most, least = math.MaxInt64, math.MinInt64

func num(n int64) api.Value { return api.Value{Kind: api.Int, N: n} }

func rat(n, d int64) api.Value { return api.Value{Kind: api.Rat, N: n, D: d} }

func str(s string) api.Value { return api.Value{Kind: api.Str, S: s} }

func row(l ...api.Value) []api.Value { return l }

func names(l ...string) []string { return l }

func put(vars []string, rows ...[]api.Value) api.Table { return api.Table{Vars: vars, Rows: rows} }

// ints is a table of Ints, as many in a row as there are variables.
func ints(vars []string, l ...int64) api.Table {
	t := put(vars)
	for each := range slices.Chunk(l, max(1, len(vars))) {
		var r []api.Value
		for _, n := range each {
			r = append(r, num(n))
		}
		t.Rows = append(t.Rows, r)
	}
	return t
}

// a and b are the chapter's tables; yes and no are the two without variables.
func a() api.Table { return ints(names("x", "y"), 1, 1, 1, 2, 2, 1) }

func b() api.Table { return ints(names("y", "z"), 1, 5, 3, 6) }

func yes() api.Table { return put(nil, row()) }

func no() api.Table { return put(nil) }

// eight are as many variables as may be, nine one more.
func eight() []string { return names("a", "b", "c", "d", "e", "f", "g", "h") }

func nine() []string { return append(eight(), "i") }

func nought() api.Table { return api.Table{} }

// alike is Same once more, without asking the program.
func alike(a, b api.Table) bool {
	return slices.Equal(a.Vars, b.Vars) && slices.EqualFunc(a.Rows, b.Rows, slices.Equal)
}

func want(t *testing.T, what string, got api.Table, e api.Errno, w api.Table, f api.Errno) {
	t.Helper()
	if e != f || !alike(got, w) {
		t.Errorf("%s is %v, %d, not %v, %d", what, got, e, w, f)
	}
}

type wrongTable struct {
	t api.Table
	e api.Errno
}

// mayNot are tables that may not be, each with its error; where there are several, the first one counts.
func mayNot() []wrongTable {
	long, kind := str(strings.Repeat("x", 65)), api.Value{Kind: 4}
	xs, xy := names("x"), names("x", "y")
	return []wrongTable{
		{put(names("y", "x")), api.ErrVars},
		{put(names("x", "x")), api.ErrVars},
		{put(names("a", "b", "b")), api.ErrVars},
		{put(names("a", "c", "b")), api.ErrVars},
		{put(names("x", "")), api.ErrVars},
		{put(names("ab", "a")), api.ErrVars},
		{put(names("\xff", "\x7f")), api.ErrVars},
		{put(nine()), api.ErrVars},
		{put(slices.Repeat(xs, 1000)), api.ErrVars},
		{put(names("y", "x"), row(kind)), api.ErrVars},
		{put(nine(), row()), api.ErrVars},
		{put(nil, row(), row()), api.ErrArg},
		{put(nil, row(num(1))), api.ErrArg},
		{put(xs, row()), api.ErrArg},
		{put(xs, nil), api.ErrArg},
		{put(xs, row(num(1), num(2))), api.ErrArg},
		{put(xy, row(num(1))), api.ErrArg},
		{put(xs, row(num(1)), row(num(2), num(3))), api.ErrArg},
		{put(xs, row(num(1)), row()), api.ErrArg},
		{ints(xs, 2, 1), api.ErrArg},
		{ints(xs, 1, 1), api.ErrArg},
		{ints(xs, 1, 2, 2), api.ErrArg},
		{ints(xs, 1, 3, 2), api.ErrArg},
		{ints(xy, 1, 2, 1, 1), api.ErrArg},
		{ints(xy, 2, 1, 1, 2), api.ErrArg},
		{ints(xy, 1, 1, 1, 1), api.ErrArg},
		{put(xs, row(rat(1, 2)), row(num(5))), api.ErrArg},
		{put(xs, row(rat(1, 2)), row(rat(1, 3))), api.ErrArg},
		{put(xs, row(str("")), row(rat(99, 1))), api.ErrArg},
		{put(xs, row(str("ab")), row(str("a"))), api.ErrArg},
		{put(xs, row(api.Value{})), api.ErrKind},
		{put(xs, row(kind)), api.ErrKind},
		{put(xs, row(rat(2, 4))), api.ErrKind},
		{put(xs, row(api.Value{Kind: api.Int, N: 1, D: 1})), api.ErrKind},
		{put(xs, row(long)), api.ErrLong},
		{put(xy, row(num(1), kind)), api.ErrKind},
		{put(xy, row(long, kind)), api.ErrLong},
		{put(xy, row(kind, long)), api.ErrKind},
		{put(xs, row(long, kind)), api.ErrArg},
		{put(xs, row(long), row()), api.ErrLong},
		{put(xs, row(), row(long)), api.ErrArg},
		{put(xs, row(num(2)), row(kind)), api.ErrKind},
		{put(xs, row(num(2)), row(num(1)), row(kind)), api.ErrArg},
		{put(xs, row(num(2)), row(kind), row(num(1))), api.ErrKind},
		{put(xs, row(num(2)), row(long), row(kind)), api.ErrLong},
		{put(xy, row(num(2), num(2)), row(num(1), long)), api.ErrLong},
	}
}

// mixed is of all kinds, at their edges.
func mixed() api.Table {
	full := strings.Repeat("x", 64)
	return put(names("a", "b"),
		row(num(least), str(full)), row(num(-1), num(0)), row(num(0), rat(0, 1)), row(num(0), str("")), row(num(most), num(1)),
		row(rat(least, 1), num(1)), row(rat(-1, 2), num(1)), row(rat(0, 1), num(1)), row(rat(0, 1), rat(0, 1)), row(rat(most, 1), str("")),
		row(str(""), num(1)), row(str("\x00"), num(1)), row(str("a"), num(1)), row(str("a"), str("a")), row(str("ab"), num(1)), row(str(full), num(1)), row(str("\xff"), num(1)))
}

// may are tables that may be, of few variables and of many.
func may() []api.Table {
	one := put(eight(), slices.Repeat(row(num(7)), 8))
	return []api.Table{
		no(), yes(), a(), b(), mixed(), one, put(eight()), put(names("x")), put(names("x", "y")), put(names("q")),
		ints(names("x"), 1), ints(names("x"), 1, 2, 3), ints(names("y"), 1, 3), ints(names("z"), 5), ints(names("q"), 1), ints(names("x", "z"), 1, 5, 2, 6),
		put(names("", "\x00", " ", "X", "not", "\xff"), slices.Repeat(row(str("")), 6)), put(names(strings.Repeat("v", 1000)), row(num(1))),
	}
}

// record is a row that knows its variables: what the calls mean is said of it without columns.
type record map[string]api.Value

func records(t api.Table) []record {
	var l []record
	for _, values := range t.Rows {
		r := record{}
		for i, v := range t.Vars {
			r[v] = values[i]
		}
		l = append(l, r)
	}
	return l
}

func tabled(vars []string, l []record) api.Table {
	t := put(slices.Sorted(slices.Values(vars)))
	for _, r := range l {
		values := row()
		for _, v := range t.Vars {
			values = append(values, r[v])
		}
		t.Rows = append(t.Rows, values)
	}
	slices.SortFunc(t.Rows, value.CompareRow)
	t.Rows = slices.CompactFunc(t.Rows, slices.Equal)
	return t
}

func (r record) fits(s record) bool {
	for v, one := range r {
		if other, ok := s[v]; ok && other != one {
			return false
		}
	}
	return true
}

func (r record) with(s record) record {
	both := maps.Clone(r)
	maps.Copy(both, s)
	return both
}

func (r record) renamed(from, to []string) record {
	other := record{}
	for v, one := range r {
		if i := slices.Index(from, v); i >= 0 {
			v = to[i]
		}
		other[v] = one
	}
	return other
}

func together(a, b []string) []string {
	return slices.Compact(slices.Sorted(slices.Values(slices.Concat(a, b))))
}

func joined(a, b api.Table) (api.Table, api.Errno) {
	vars := together(a.Vars, b.Vars)
	if len(vars) > 8 {
		return nought(), api.ErrVars
	}
	var l []record
	for _, r := range records(a) {
		for _, s := range records(b) {
			if r.fits(s) {
				l = append(l, r.with(s))
			}
		}
	}
	return tabled(vars, l), api.OK
}

func antied(a, b api.Table) (api.Table, api.Errno) {
	l := slices.DeleteFunc(records(a), func(r record) bool { return slices.ContainsFunc(records(b), r.fits) })
	return tabled(a.Vars, l), api.OK
}

func united(a, b api.Table) (api.Table, api.Errno) {
	if !slices.Equal(a.Vars, b.Vars) {
		return nought(), api.ErrVars
	}
	return tabled(a.Vars, append(records(a), records(b)...)), api.OK
}

func lessened(a, b api.Table) (api.Table, api.Errno) {
	if !slices.Equal(a.Vars, b.Vars) {
		return nought(), api.ErrVars
	}
	has := func(r record) bool {
		return slices.ContainsFunc(records(b), func(s record) bool { return maps.Equal(r, s) })
	}
	return tabled(a.Vars, slices.DeleteFunc(records(a), has)), api.OK
}

type binary struct {
	name       string
	does, must func(a, b api.Table) (api.Table, api.Errno)
}

func binaries() []binary {
	return []binary{{"Union", table.Union, united}, {"Minus", table.Minus, lessened}, {"Join", table.Join, joined}, {"Anti", table.Anti, antied}}
}

func (o binary) try(t *testing.T, x, y api.Table) {
	t.Helper()
	w, f := o.must(x, y)
	got, e := o.does(x, y)
	want(t, fmt.Sprintf("%s(%v, %v)", o.name, x, y), got, e, w, f)
	if c := table.Check(got); c != api.OK {
		t.Errorf("%s(%v, %v) tells what may not be: %d", o.name, x, y, c)
	}
}

// small are all tables of some variables with the values 1 and 2.
func small(vars ...string) []api.Table {
	all := [][]api.Value{row()}
	for range vars {
		var longer [][]api.Value
		for _, r := range all {
			longer = append(longer, append(slices.Clone(r), num(1)), append(slices.Clone(r), num(2)))
		}
		all = longer
	}
	var l []api.Table
	for set := range 1 << len(all) {
		t := put(vars)
		for i, r := range all {
			if set>>i&1 == 1 {
				t.Rows = append(t.Rows, r)
			}
		}
		l = append(l, t)
	}
	return l
}

// stream is a row of numbers that look like chance and are the same each time.
type stream uint64

func (s *stream) below(n int) int {
	x := uint64(*s)
	x ^= x << 13
	x ^= x >> 7
	x ^= x << 17
	*s = stream(x)
	return int(x % uint64(n))
}

func pool() []api.Value {
	return row(num(-1), num(0), num(1), num(2), rat(-1, 2), rat(0, 1), rat(1, 1), rat(2, 1), str(""), str("1"), str("a"), str("ab"))
}

// vars are some of as many variables as may be, in any order.
func (s *stream) vars() []string {
	l := eight()
	for i := range l {
		k := i + s.below(len(l)-i)
		l[i], l[k] = l[k], l[i]
	}
	return l[:s.below(5)]
}

// rows hold few values, so that many of them fit one another and some are the same.
func (s *stream) rows(size int) [][]api.Value {
	values := pool()
	at, n := s.below(len(values)), 1+s.below(4)
	var l [][]api.Value
	for range s.below(12) {
		r := row()
		for range size {
			r = append(r, values[(at+s.below(n))%len(values)])
		}
		l = append(l, r)
	}
	return l
}

func (s *stream) table() api.Table {
	vars := s.vars()
	t := put(vars, s.rows(len(vars))...)
	return tabled(vars, records(t))
}

// TestCheckTakes: P3.1, of tables that may be.
func TestCheckTakes(t *testing.T) {
	for _, x := range may() {
		if e := table.Check(x); e != api.OK {
			t.Errorf("Check(%v) is %d", x, e)
		}
	}
	for _, x := range []api.Table{{Vars: names(), Rows: [][]api.Value{}}, {Rows: [][]api.Value{nil}}, {Vars: names(), Rows: [][]api.Value{{}}}} {
		if e := table.Check(x); e != api.OK {
			t.Errorf("Check(%v) is %d", x, e)
		}
	}
}

// TestCheckRefuses: P3.1, of tables that may not be, by the first of their errors.
func TestCheckRefuses(t *testing.T) {
	for _, c := range mayNot() {
		if e := table.Check(c.t); e != c.e {
			t.Errorf("Check(%v) is %d, not %d", c.t, e, c.e)
		}
	}
}

// TestCheckRising: P3.1, each two rows of a table taken out of their order.
func TestCheckRising(t *testing.T) {
	for i := range mixed().Rows {
		for k := range mixed().Rows {
			x := mixed()
			x.Rows[i], x.Rows[k] = x.Rows[k], x.Rows[i]
			if e := table.Check(x); (e == api.OK) != (i == k) || i != k && e != api.ErrArg {
				t.Errorf("Check with the rows %d and %d changed round is %d", i, k, e)
			}
			x = mixed()
			x.Rows[i] = x.Rows[k]
			if e := table.Check(x); (e == api.OK) != (i == k) || i != k && e != api.ErrArg {
				t.Errorf("Check with the row %d at %d is %d", k, i, e)
			}
		}
	}
}

// TestCheckVars: P3.1, how many variables there may be.
func TestCheckVars(t *testing.T) {
	var vars []string
	for n := range 20 {
		wantE := api.OK
		if n > 8 {
			wantE = api.ErrVars
		}
		x := put(vars, slices.Repeat(row(num(1)), n))
		if e := table.Check(x); e != wantE {
			t.Errorf("Check of %d variables is %d", n, e)
		}
		got, e := table.Of(vars, x.Rows)
		if wantE != api.OK {
			x = nought()
		}
		want(t, fmt.Sprintf("Of %d variables", n), got, e, x, wantE)
		vars = append(vars, string(rune('a'+n)))
	}
}

// TestOfExamples: P3.2, the chapter's, and edges.
func TestOfExamples(t *testing.T) {
	xs, yx := names("x"), names("y", "x")
	for i, c := range []struct {
		vars []string
		rows [][]api.Value
		w    api.Table
		e    api.Errno
	}{
		{yx, [][]api.Value{row(num(2), num(1)), row(num(1), num(1)), row(num(2), num(1))}, ints(names("x", "y"), 1, 1, 1, 2), api.OK},
		{names("x", "x"), nil, nought(), api.ErrVars},
		{xs, [][]api.Value{row(num(1), num(2))}, nought(), api.ErrArg},
		{nine(), nil, nought(), api.ErrVars},
		{eight(), nil, put(eight()), api.OK},
		{nil, nil, no(), api.OK},
		{names(), [][]api.Value{}, no(), api.OK},
		{nil, [][]api.Value{nil}, yes(), api.OK},
		{nil, [][]api.Value{nil, {}, nil}, yes(), api.OK},
		{yx, nil, put(names("x", "y")), api.OK},
		{names("b", ""), [][]api.Value{row(num(1), num(2))}, ints(names("", "b"), 2, 1), api.OK},
		{names("\xff", "z", "Z"), [][]api.Value{row(num(1), num(2), num(3))}, ints(names("Z", "z", "\xff"), 3, 2, 1), api.OK},
		{names("ab", "a"), [][]api.Value{row(num(1), num(2))}, ints(names("a", "ab"), 2, 1), api.OK},
		{xs, [][]api.Value{row(str("a")), row(rat(1, 1)), row(num(1)), row(str("")), row(rat(1, 2)), row(num(-1))}, put(xs, row(num(-1)), row(num(1)), row(rat(1, 2)), row(rat(1, 1)), row(str("")), row(str("a"))), api.OK},
	} {
		got, e := table.Of(c.vars, c.rows)
		want(t, fmt.Sprint("Of, ", i), got, e, c.w, c.e)
	}
}

// TestOfRefuses: P3.2, the first error, row by row and value by value as they were handed in.
func TestOfRefuses(t *testing.T) {
	long, kind := str(strings.Repeat("x", 65)), rat(2, 4)
	for i, c := range []struct {
		vars []string
		rows [][]api.Value
		e    api.Errno
	}{
		{nine(), [][]api.Value{row()}, api.ErrVars},
		{slices.Repeat(names("x"), 9), nil, api.ErrVars},
		{names("x", "y", "x"), [][]api.Value{row(kind)}, api.ErrVars},
		{names("", ""), nil, api.ErrVars},
		{names("x"), [][]api.Value{row(num(1)), row()}, api.ErrArg},
		{names("x"), [][]api.Value{nil}, api.ErrArg},
		{nil, [][]api.Value{row(num(1))}, api.ErrArg},
		{names("x"), [][]api.Value{row(kind), row()}, api.ErrKind},
		{names("x"), [][]api.Value{row(long), row(kind)}, api.ErrLong},
		{names("x"), [][]api.Value{row(), row(kind)}, api.ErrArg},
		{names("x"), [][]api.Value{row(kind, long)}, api.ErrArg},
		{names("y", "x"), [][]api.Value{row(long, kind)}, api.ErrLong},
		{names("y", "x"), [][]api.Value{row(kind, long)}, api.ErrKind},
		{names("x"), [][]api.Value{row(num(2)), row(num(1)), row(long)}, api.ErrLong},
		{names("x"), [][]api.Value{row(num(2)), row(num(2)), row(num(2), num(2))}, api.ErrArg},
	} {
		got, e := table.Of(c.vars, c.rows)
		want(t, fmt.Sprint("Of, ", i), got, e, nought(), c.e)
		if c.e == api.ErrVars {
			got, e = table.Empty(c.vars)
			want(t, fmt.Sprint("Empty, ", i), got, e, nought(), c.e)
		}
	}
}

// TestOfAnyOrder: P3.2, of each order of three columns and of four rows the same table.
func TestOfAnyOrder(t *testing.T) {
	whole := put(names("a", "b", "c"), row(num(1), rat(1, 2), str("z")), row(num(1), str(""), num(0)), row(num(2), num(0), num(0)), row(str("q"), num(0), num(0)))
	for columns := range orders(3) {
		for places := range orders(4) {
			var vars []string
			for _, c := range columns {
				vars = append(vars, whole.Vars[c])
			}
			var rows [][]api.Value
			for _, p := range append(places, places[0]) {
				r := row()
				for _, c := range columns {
					r = append(r, whole.Rows[p][c])
				}
				rows = append(rows, r)
			}
			got, e := table.Of(vars, rows)
			want(t, fmt.Sprintf("Of(%v, %v)", vars, rows), got, e, whole, api.OK)
			got, e = table.Empty(vars)
			want(t, fmt.Sprintf("Empty(%v)", vars), got, e, put(whole.Vars), api.OK)
		}
	}
}

// orders tells all orders of the numbers below n.
func orders(n int) func(func([]int) bool) {
	return func(yield func([]int) bool) {
		var longer func(l []int) bool
		longer = func(l []int) bool {
			if len(l) == n {
				return yield(slices.Clone(l))
			}
			for i := range n {
				if !slices.Contains(l, i) && !longer(append(slices.Clone(l), i)) {
					return false
				}
			}
			return true
		}
		longer(nil)
	}
}

// TestOfMany: P3.2 and P3.8: what Of tells may be, and has just the rows that it was given.
func TestOfMany(t *testing.T) {
	s := stream(3)
	for range 3000 {
		vars := s.vars()
		rows := s.rows(len(vars))
		got, e := table.Of(vars, rows)
		want(t, fmt.Sprintf("Of(%v, %v)", vars, rows), got, e, tabled(vars, records(put(vars, rows...))), api.OK)
		if c := table.Check(got); c != api.OK {
			t.Fatalf("Of(%v, %v) tells what may not be: %d", vars, rows, c)
		}
		for _, r := range records(put(vars, rows...)) {
			if !table.Has(got, tabled(vars, []record{r}).Rows[0]) {
				t.Fatalf("Of(%v, %v) has no %v", vars, rows, r)
			}
		}
		for _, r := range records(got) {
			if !slices.ContainsFunc(records(put(vars, rows...)), func(other record) bool { return maps.Equal(r, other) }) {
				t.Fatalf("Of(%v, %v) has %v", vars, rows, r)
			}
		}
	}
}

// TestTrueEmpty: P3.2.
func TestTrueEmpty(t *testing.T) {
	want(t, "True", table.True(), api.OK, yes(), api.OK)
	got, e := table.Empty(nil)
	want(t, "Empty of none", got, e, no(), api.OK)
	got, e = table.Empty(names("y", "x"))
	want(t, "Empty", got, e, put(names("x", "y")), api.OK)
	back := eight()
	slices.Reverse(back)
	got, e = table.Empty(back)
	want(t, "Empty of eight", got, e, put(eight()), api.OK)
}

// TestSame: P3.3, of tables that may be and of such that may not.
func TestSame(t *testing.T) {
	l := may()
	for _, c := range mayNot() {
		l = append(l, c.t)
	}
	for _, x := range l {
		for _, y := range l {
			if got := table.Same(x, y); got != alike(x, y) {
				t.Errorf("Same(%v, %v) is %v", x, y, got)
			}
		}
		other := put(slices.Clone(x.Vars))
		for _, r := range x.Rows {
			other.Rows = append(other.Rows, slices.Clone(r))
		}
		if !table.Same(x, other) || !table.Same(other, x) {
			t.Errorf("%v is not the same as another one like it", x)
		}
	}
}

// TestSameParts: P3.3, one thing another one at a time, and nil lists.
func TestSameParts(t *testing.T) {
	v := api.Value{Kind: 9, N: 8, D: 7, S: "6"}
	x := put(names("b", "a"), row(v, v), row(v))
	if !table.Same(x, put(names("b", "a"), row(v, v), row(v))) {
		t.Error("a table is not the same as itself")
	}
	for i, y := range []api.Table{
		put(names("a", "b"), row(v, v), row(v)), put(names("b"), row(v, v), row(v)), put(names("b", "a", ""), row(v, v), row(v)), put(nil, row(v, v), row(v)),
		put(names("b", "a"), row(v, v)), put(names("b", "a")), put(names("b", "a"), row(v, v), row(v), row()), put(names("b", "a"), row(v), row(v, v)),
		put(names("b", "a"), row(v, v), row(v, v)), put(names("b", "a"), row(v), row(v)), put(names("b", "a"), row(v, v), row()),
		put(names("b", "a"), row(v, v), row(api.Value{Kind: 8, N: 8, D: 7, S: "6"})), put(names("b", "a"), row(v, v), row(api.Value{Kind: 9, N: 7, D: 7, S: "6"})),
		put(names("b", "a"), row(v, v), row(api.Value{Kind: 9, N: 8, D: 6, S: "6"})), put(names("b", "a"), row(v, v), row(api.Value{Kind: 9, N: 8, D: 7, S: "5"})),
	} {
		if table.Same(x, y) || table.Same(y, x) {
			t.Errorf("%d: %v is the same as %v", i, x, y)
		}
	}
	if !table.Same(api.Table{Vars: names(), Rows: [][]api.Value{}}, no()) || !table.Same(api.Table{Vars: names(), Rows: [][]api.Value{nil}}, yes()) || table.Same(yes(), no()) {
		t.Error("a nil list and an empty one are not the same, or True and false are")
	}
}

// TestHas: P3.3, each row of each table, and rows that it has not; whatever the table is.
func TestHas(t *testing.T) {
	l := may()
	for _, c := range mayNot() {
		l = append(l, c.t)
	}
	var rows [][]api.Value
	for _, x := range l {
		rows = append(rows, x.Rows...)
	}
	rows = append(rows, nil, row(num(2), num(2)), row(num(2)), row(num(1), num(1), num(5)), row(rat(1, 1)), row(str("1")), row(api.Value{Kind: api.Int, N: 1, D: 1}))
	for _, x := range l {
		for _, r := range rows {
			has := slices.ContainsFunc(x.Rows, func(other []api.Value) bool { return slices.Equal(r, other) })
			if got := table.Has(x, r); got != has {
				t.Errorf("Has(%v, %v) is %v", x, r, got)
			}
		}
	}
	if !table.Has(yes(), nil) || table.Has(no(), nil) || table.Has(a(), row(num(1))) || table.Has(a(), row(num(1), num(1), num(1))) {
		t.Error("Has of rows of another length")
	}
}

// TestTwoExamples: P3.4 and P3.5, the chapter's.
func TestTwoExamples(t *testing.T) {
	xy := names("x", "y")
	c := ints(xy, 1, 2, 3, 3)
	for i, c := range []struct {
		does func(a, b api.Table) (api.Table, api.Errno)
		x, y api.Table
		w    api.Table
		e    api.Errno
	}{
		{table.Join, a(), b(), ints(names("x", "y", "z"), 1, 1, 5, 2, 1, 5), api.OK},
		{table.Anti, a(), b(), ints(xy, 1, 2), api.OK},
		{table.Anti, b(), a(), ints(names("y", "z"), 3, 6), api.OK},
		{table.Anti, a(), yes(), put(xy), api.OK},
		{table.Anti, a(), no(), a(), api.OK},
		{table.Join, a(), no(), put(xy), api.OK},
		{table.Join, no(), a(), put(xy), api.OK},
		{table.Join, a(), yes(), a(), api.OK},
		{table.Join, yes(), yes(), yes(), api.OK},
		{table.Join, yes(), no(), no(), api.OK},
		{table.Anti, yes(), a(), no(), api.OK},
		{table.Anti, yes(), put(xy), yes(), api.OK},
		{table.Anti, yes(), no(), yes(), api.OK},
		{table.Anti, a(), ints(names("q"), 1), put(xy), api.OK},
		{table.Anti, a(), put(names("q")), a(), api.OK},
		{table.Join, a(), a(), a(), api.OK},
		{table.Union, a(), a(), a(), api.OK},
		{table.Minus, a(), a(), put(xy), api.OK},
		{table.Anti, a(), a(), put(xy), api.OK},
		{table.Union, a(), c, ints(xy, 1, 1, 1, 2, 2, 1, 3, 3), api.OK},
		{table.Minus, a(), c, ints(xy, 1, 1, 2, 1), api.OK},
		{table.Union, a(), b(), nought(), api.ErrVars},
		{table.Minus, a(), b(), nought(), api.ErrVars},
		{table.Union, a(), yes(), nought(), api.ErrVars},
		{table.Minus, no(), a(), nought(), api.ErrVars},
		{table.Union, a(), put(names("x")), nought(), api.ErrVars},
		{table.Union, yes(), no(), yes(), api.OK},
		{table.Minus, yes(), yes(), no(), api.OK},
		{table.Join, put(eight()), a(), nought(), api.ErrVars},
		{table.Join, put(eight()[:7]), ints(names("x"), 1), put(append(eight()[:7], "x")), api.OK},
		{table.Join, put(eight()), put(eight()), put(eight()), api.OK},
		{table.Join, ints(names("z"), 1, 2), ints(names("a"), 3, 4), ints(names("a", "z"), 3, 1, 3, 2, 4, 1, 4, 2), api.OK},
		{table.Join, put(names("x"), row(num(1))), put(names("x"), row(rat(1, 1))), put(names("x")), api.OK},
		{table.Anti, put(names("x"), row(num(1))), put(names("x"), row(str("1"))), ints(names("x"), 1), api.OK},
	} {
		got, e := c.does(c.x, c.y)
		want(t, fmt.Sprint(i), got, e, c.w, c.e)
	}
}

// TestJoinVars: P3.5, how many variables two tables may have together.
func TestJoinVars(t *testing.T) {
	l := names("a", "b", "c", "d", "e", "f", "g", "h", "i", "j", "k", "l", "m", "n", "o", "p")
	for i := range 9 {
		for k := range 9 {
			for shared := range min(i, k) + 1 {
				x, y := l[:i], l[i-shared:i-shared+k]
				one, other := put(x, slices.Repeat(row(num(1)), i)), put(y, slices.Repeat(row(num(1)), k))
				w, f := put(l[:i+k-shared], slices.Repeat(row(num(1)), i+k-shared)), api.OK
				if i+k-shared > 8 {
					w, f = nought(), api.ErrVars
				}
				got, e := table.Join(one, other)
				want(t, fmt.Sprintf("Join of %d and %d with %d in both", i, k, shared), got, e, w, f)
			}
		}
	}
}

// TestTwoSmall: P3.4, P3.5 and P3.8, of all pairs of all tables of two values.
func TestTwoSmall(t *testing.T) {
	l := slices.Concat(small(), small("x"), small("y"), small("x", "y"), small("y", "z"), small("w", "x"))
	for _, o := range binaries() {
		for _, x := range l {
			for _, y := range l {
				o.try(t, x, y)
			}
		}
	}
}

// TestTwoMany: P3.4, P3.5 and P3.8, of many tables of all kinds.
func TestTwoMany(t *testing.T) {
	s := stream(17)
	for range 4000 {
		x, y := s.table(), s.table()
		for _, o := range binaries() {
			o.try(t, x, y)
			o.try(t, x, x)
			o.try(t, x, tabled(x.Vars, records(put(x.Vars, s.rows(len(x.Vars))...))))
		}
	}
	for _, o := range binaries() {
		for _, x := range may() {
			for _, y := range may() {
				o.try(t, x, y)
			}
		}
	}
}

// TestTwoRefuse: P3.4, the error of the first table, then of the second one, then the call's own.
func TestTwoRefuse(t *testing.T) {
	for _, o := range binaries() {
		for _, c := range mayNot() {
			for _, x := range may() {
				got, e := o.does(c.t, x)
				want(t, fmt.Sprintf("%s(%v, %v)", o.name, c.t, x), got, e, nought(), c.e)
				got, e = o.does(x, c.t)
				want(t, fmt.Sprintf("%s(%v, %v)", o.name, x, c.t), got, e, nought(), c.e)
			}
			for _, d := range mayNot() {
				got, e := o.does(c.t, d.t)
				want(t, fmt.Sprintf("%s(%v, %v)", o.name, c.t, d.t), got, e, nought(), c.e)
			}
		}
	}
}

// must is an answer without an error.
func must(t *testing.T) func(x api.Table, e api.Errno) api.Table {
	return func(x api.Table, e api.Errno) api.Table {
		t.Helper()
		if e != api.OK {
			t.Fatalf("the error %d", e)
		}
		return x
	}
}

// TestLaws: P3.8 and P3.9, of all three of some tables.
func TestLaws(t *testing.T) {
	ok := must(t)
	l := slices.Concat(small(), small("x"), small("y"), []api.Table{a(), b()}, small("x", "y")[3:11], small("y", "z")[5:13])
	for _, x := range l {
		want(t, "Join with True", ok(table.Join(x, yes())), 0, x, 0)
		want(t, "Join of True", ok(table.Join(yes(), x)), 0, x, 0)
		want(t, "Join with itself", ok(table.Join(x, x)), 0, x, 0)
		want(t, "Union with itself", ok(table.Union(x, x)), 0, x, 0)
		for _, y := range l {
			both := ok(table.Join(x, y))
			want(t, "Join the other way round", ok(table.Join(y, x)), 0, both, 0)
			want(t, "Anti by Join", ok(table.Anti(x, y)), 0, ok(table.Minus(x, ok(table.Project(both, x.Vars)))), 0)
			for _, z := range l {
				want(t, "Join of three", ok(table.Join(both, z)), 0, ok(table.Join(x, ok(table.Join(y, z)))), 0)
			}
		}
	}
	pairs := small("x", "y")
	for _, x := range pairs {
		for _, y := range pairs {
			want(t, "Minus by Anti", ok(table.Minus(x, y)), 0, ok(table.Anti(x, y)), 0)
			want(t, "Union the other way round", ok(table.Union(x, y)), 0, ok(table.Union(y, x)), 0)
			for _, z := range pairs {
				want(t, "Union of three", ok(table.Union(ok(table.Union(x, y)), z)), 0, ok(table.Union(x, ok(table.Union(y, z)))), 0)
			}
		}
	}
}

// TestCutExamples: P3.6, the chapter's, and edges.
func TestCutExamples(t *testing.T) {
	x := names("x")
	lots := slices.Repeat(names("q", "y"), 1000)
	for i, c := range []struct {
		does func(t api.Table, vars []string) (api.Table, api.Errno)
		t    api.Table
		vars []string
		w    api.Table
		e    api.Errno
	}{
		{table.Project, a(), x, ints(x, 1, 2), api.OK},
		{table.Project, a(), nil, yes(), api.OK},
		{table.Project, put(names("x", "y")), nil, no(), api.OK},
		{table.Project, put(names("x", "y")), x, put(x), api.OK},
		{table.Project, a(), names("y", "x"), a(), api.OK},
		{table.Project, a(), names("y"), ints(names("y"), 1, 2), api.OK},
		{table.Project, a(), names("q"), nought(), api.ErrVars},
		{table.Project, a(), names("x", "q"), nought(), api.ErrVars},
		{table.Project, a(), names("x", "x"), nought(), api.ErrVars},
		{table.Project, a(), names("x", "y", "x"), nought(), api.ErrVars},
		{table.Project, a(), lots, nought(), api.ErrVars},
		{table.Project, yes(), nil, yes(), api.OK},
		{table.Project, no(), nil, no(), api.OK},
		{table.Project, yes(), x, nought(), api.ErrVars},
		{table.Project, put(eight()), nine(), nought(), api.ErrVars},
		{table.Project, put(eight()), eight(), put(eight()), api.OK},
		{table.Drop, a(), names("y", "q"), ints(x, 1, 2), api.OK},
		{table.Drop, a(), names("y", "y", "q", "q"), ints(x, 1, 2), api.OK},
		{table.Drop, a(), lots, ints(x, 1, 2), api.OK},
		{table.Drop, a(), nil, a(), api.OK},
		{table.Drop, a(), names("q"), a(), api.OK},
		{table.Drop, a(), names("y", "x"), yes(), api.OK},
		{table.Drop, put(names("x", "y")), names("y", "x"), no(), api.OK},
		{table.Drop, yes(), x, yes(), api.OK},
		{table.Drop, no(), x, no(), api.OK},
		{table.Drop, ints(names("x", "y"), 1, 9, 2, 5, 3, 9), x, ints(names("y"), 5, 9), api.OK},
	} {
		got, e := c.does(c.t, c.vars)
		want(t, fmt.Sprint(i), got, e, c.w, c.e)
	}
}

// TestCutMany: P3.6 and P3.8, of many tables and of names that they have and have not.
func TestCutMany(t *testing.T) {
	s := stream(23)
	for range 5000 {
		x, vars := s.table(), s.vars()
		if s.below(2) == 0 {
			vars = slices.DeleteFunc(vars, func(v string) bool { return !slices.Contains(x.Vars, v) })
		}
		if s.below(4) == 0 {
			vars = append(vars, vars...)
		}
		has := len(slices.Compact(slices.Sorted(slices.Values(vars)))) == len(vars)
		for _, v := range vars {
			has = has && slices.Contains(x.Vars, v)
		}
		w, f := tabled(vars, records(x)), api.OK
		if !has {
			w, f = nought(), api.ErrVars
		}
		got, e := table.Project(x, vars)
		want(t, fmt.Sprintf("Project(%v, %v)", x, vars), got, e, w, f)
		left := slices.DeleteFunc(slices.Clone(x.Vars), func(v string) bool { return slices.Contains(vars, v) })
		got, e = table.Drop(x, vars)
		want(t, fmt.Sprintf("Drop(%v, %v)", x, vars), got, e, tabled(left, records(x)), api.OK)
	}
}

// TestRenameExamples: P3.7, the chapter's, and edges.
func TestRenameExamples(t *testing.T) {
	x, xy, yx := names("x"), names("x", "y"), names("y", "x")
	for i, c := range []struct {
		t        api.Table
		from, to []string
		w        api.Table
		e        api.Errno
	}{
		{a(), xy, yx, ints(xy, 1, 1, 1, 2, 2, 1), api.OK},
		{ints(xy, 1, 5, 2, 4), xy, yx, ints(xy, 4, 2, 5, 1), api.OK},
		{ints(xy, 1, 5, 2, 4), yx, xy, ints(xy, 4, 2, 5, 1), api.OK},
		{ints(xy, 1, 5, 2, 4), xy, names("y", "a"), ints(names("a", "y"), 4, 2, 5, 1), api.OK},
		{ints(xy, 1, 5, 2, 4), x, names("z"), ints(names("y", "z"), 4, 2, 5, 1), api.OK},
		{ints(names("a", "b", "c"), 1, 2, 3), names("c", "a", "b"), names("a", "b", "c"), ints(names("a", "b", "c"), 3, 1, 2), api.OK},
		{a(), xy, xy, a(), api.OK},
		{a(), x, x, a(), api.OK},
		{a(), nil, nil, a(), api.OK},
		{a(), names(), nil, a(), api.OK},
		{a(), x, names(""), ints(names("", "y"), 1, 1, 1, 2, 2, 1), api.OK},
		{a(), x, names("y"), nought(), api.ErrVars},
		{a(), xy, names("z", "z"), nought(), api.ErrVars},
		{a(), xy, names("y", "y"), nought(), api.ErrVars},
		{put(xy), x, names("y"), nought(), api.ErrVars},
		{a(), x, nil, nought(), api.ErrArg},
		{a(), nil, x, nought(), api.ErrArg},
		{a(), x, xy, nought(), api.ErrArg},
		{a(), names("q", "q"), x, nought(), api.ErrArg},
		{a(), names("q"), xy, nought(), api.ErrArg},
		{a(), names("q"), x, nought(), api.ErrVars},
		{a(), names("q"), names("q"), nought(), api.ErrVars},
		{a(), names("x", "q"), names("k", "l"), nought(), api.ErrVars},
		{a(), names("x", "x"), names("k", "l"), nought(), api.ErrVars},
		{a(), names("x", "x"), names("k", "k"), nought(), api.ErrVars},
		{a(), names("x", "x"), names("x", "x"), nought(), api.ErrVars},
		{yes(), nil, nil, yes(), api.OK},
		{no(), nil, nil, no(), api.OK},
		{yes(), x, x, nought(), api.ErrVars},
		{put(eight()), names("a"), names("z"), put(append(eight()[1:], "z")), api.OK},
	} {
		got, e := table.Rename(c.t, c.from, c.to)
		want(t, fmt.Sprint(i), got, e, c.w, c.e)
	}
}

// TestRenameMany: P3.7 and P3.8, of many tables and names, and back again.
func TestRenameMany(t *testing.T) {
	s := stream(41)
	for range 5000 {
		x, from, to := s.table(), s.vars(), s.vars()
		if s.below(4) > 0 {
			from = slices.DeleteFunc(from, func(v string) bool { return !slices.Contains(x.Vars, v) })
			n := min(len(from), len(to))
			from, to = from[:n], to[:n]
		}
		got, e := table.Rename(x, from, to)
		w, f := renamed(x, from, to)
		want(t, fmt.Sprintf("Rename(%v, %v, %v)", x, from, to), got, e, w, f)
		if e == api.OK {
			back, e := table.Rename(got, to, from)
			want(t, fmt.Sprintf("Rename(%v, %v, %v)", got, to, from), back, e, x, api.OK)
		}
	}
}

// renamed is what Rename must answer of names of which none stands there twice.
func renamed(x api.Table, from, to []string) (api.Table, api.Errno) {
	if len(from) != len(to) {
		return nought(), api.ErrArg
	}
	named := record{}
	for _, v := range x.Vars {
		named[v] = num(0)
	}
	for _, v := range from {
		if _, ok := named[v]; !ok {
			return nought(), api.ErrVars
		}
	}
	vars := slices.Collect(maps.Keys(named.renamed(from, to)))
	if len(vars) < len(x.Vars) {
		return nought(), api.ErrVars
	}
	var l []record
	for _, r := range records(x) {
		l = append(l, r.renamed(from, to))
	}
	return tabled(vars, l), api.OK
}

// TestOneRefuses: P3.4, Check's error ahead of the call's own.
func TestOneRefuses(t *testing.T) {
	for _, c := range mayNot() {
		for _, vars := range [][]string{nil, names("x"), names("y", "x"), names("x", "x"), names("nowhere")} {
			got, e := table.Project(c.t, vars)
			want(t, fmt.Sprintf("Project(%v, %v)", c.t, vars), got, e, nought(), c.e)
			got, e = table.Drop(c.t, vars)
			want(t, fmt.Sprintf("Drop(%v, %v)", c.t, vars), got, e, nought(), c.e)
			got, e = table.Rename(c.t, vars, vars)
			want(t, fmt.Sprintf("Rename(%v, %v)", c.t, vars), got, e, nought(), c.e)
			got, e = table.Rename(c.t, vars, names("k", "l", "m"))
			want(t, fmt.Sprintf("Rename(%v, %v, three)", c.t, vars), got, e, nought(), c.e)
		}
	}
}

// roomy is a table whose lists have room behind them, and all of what stands in them and in that room.
func roomy(x api.Table) (api.Table, func() string) {
	vars := append(slices.Clone(x.Vars), "behind", "too")
	rows := append(slices.Clone(x.Rows), nil, row(num(99)))
	var kept [][]api.Value
	for i, r := range x.Rows {
		all := append(slices.Clone(r), num(98), num(97))
		kept = append(kept, all)
		rows[i] = all[:len(r)]
	}
	told := func() string { return fmt.Sprint(vars, rows, kept) }
	return api.Table{Vars: vars[:len(x.Vars)], Rows: rows[:len(x.Rows)]}, told
}

// alone writes into each list of an answer, and into the room behind it, and sees whether that shows in another one.
func alone(t *testing.T, what string, x api.Table) {
	t.Helper()
	rows := x.Rows[:cap(x.Rows)]
	for i := range len(x.Rows) {
		all := rows[i][:cap(rows[i])]
		for k := range all {
			all[k] = api.Value{Kind: i, N: int64(k)}
		}
	}
	for i := range len(x.Rows) {
		for k, v := range rows[i][:cap(rows[i])] {
			if v != (api.Value{Kind: i, N: int64(k)}) {
				t.Errorf("%s: two rows share room", what)
			}
		}
	}
	for i := range rows {
		rows[i] = nil
	}
	vars := x.Vars[:cap(x.Vars)]
	for i := range vars {
		vars[i] = "written"
	}
}

// TestMemory: rule R4, what is handed in stays as it is, and what is answered is new.
func TestMemory(t *testing.T) {
	falling := ints(names("x", "y"), 2, 1, 1, 1, 1, 1)
	for _, x := range append(may(), falling, put(names("y", "x"))) {
		for _, y := range append(may(), falling) {
			one, first := roomy(x)
			other, second := roomy(y)
			f, s := first(), second()
			answers := map[string]api.Table{"True": table.True()}
			tell := func(what string, got api.Table, _ api.Errno) { answers[what] = got }
			for _, o := range binaries() {
				got, e := o.does(one, other)
				tell(o.name, got, e)
				got, e = o.does(one, one)
				tell(o.name+" with itself", got, e)
			}
			got, e := table.Of(one.Vars, other.Rows)
			tell("Of", got, e)
			got, e = table.Of(one.Vars, one.Rows)
			tell("Of all", got, e)
			got, e = table.Empty(one.Vars)
			tell("Empty", got, e)
			got, e = table.Project(one, other.Vars)
			tell("Project", got, e)
			got, e = table.Project(one, one.Vars)
			tell("Project to all", got, e)
			got, e = table.Drop(one, other.Vars)
			tell("Drop", got, e)
			got, e = table.Drop(one, nil)
			tell("Drop none", got, e)
			got, e = table.Rename(one, one.Vars, other.Vars)
			tell("Rename", got, e)
			got, e = table.Rename(one, nil, nil)
			tell("Rename none", got, e)
			table.Check(one)
			table.Same(one, other)
			for _, r := range other.Rows {
				table.Has(one, r)
			}
			for what, got := range answers {
				alone(t, what, got)
			}
			if first() != f || second() != s {
				t.Fatalf("%v or %v was changed", x, y)
			}
		}
	}
	if !alike(table.True(), yes()) {
		t.Error("what was written into True shows in the next one")
	}
}

// TestOneAnswer: rule R5, the same again of the same, in whatever order maps are gone through.
func TestOneAnswer(t *testing.T) {
	s := stream(5)
	for range 200 {
		x, y := s.table(), s.table()
		for _, o := range binaries() {
			w, f := o.does(x, y)
			for range 5 {
				got, e := o.does(x, y)
				want(t, o.name, got, e, w, f)
			}
		}
	}
}

// TestGreat: rule R6, each call of tables of 2^16 rows, which none of them may take two by two.
func TestGreat(t *testing.T) {
	const n = 1 << 16
	ok := must(t)
	x, y, back := put(names("x", "y")), put(names("y", "z")), [][]api.Value{}
	for i := range int64(n) {
		x.Rows = append(x.Rows, row(num(i), num(n-i)))
		y.Rows = append(y.Rows, row(num(i), rat(i, 1)))
		back = append(back, row(num(i), num(n-i)))
	}
	slices.Reverse(back)
	want(t, "Of", ok(table.Of(names("x", "y"), append(back, back...))), 0, x, 0)
	want(t, "Union", ok(table.Union(x, x)), 0, x, 0)
	want(t, "Minus", ok(table.Minus(x, x)), 0, put(x.Vars), 0)
	want(t, "Anti", ok(table.Anti(x, y)), 0, put(x.Vars, x.Rows[0]), 0)
	both := ok(table.Join(x, y))
	if len(both.Rows) != n-1 || !slices.Equal(both.Rows[0], row(num(1), num(n-1), rat(n-1, 1))) {
		t.Errorf("Join has %d rows, the first one %v", len(both.Rows), both.Rows[0])
	}
	want(t, "Project", ok(table.Project(both, x.Vars)), 0, put(x.Vars, x.Rows[1:]...), 0)
	want(t, "Drop", ok(table.Drop(x, x.Vars)), 0, yes(), 0)
	turned := ok(table.Rename(x, names("x", "y"), names("y", "x")))
	want(t, "Rename", ok(table.Rename(turned, names("x", "y"), names("y", "x"))), 0, x, 0)
	wide := ok(table.Join(ints(names("a"), 1, 2), ints(names("b"), 1, 2)))
	for _, v := range eight()[2:] {
		wide = ok(table.Join(ints(names(v), 1, 2, 3, 4), wide))
	}
	if len(wide.Rows) != 1<<14 || table.Check(wide) != api.OK {
		t.Errorf("Join of eight has %d rows", len(wide.Rows))
	}
}
