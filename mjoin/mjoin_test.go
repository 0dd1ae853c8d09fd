package mjoin_test

import (
	"fmt"
	"slices"
	"strings"
	"testing"

	"custos/api"
	"custos/mjoin"
	"custos/table"
	"custos/value"
)

func num(n int64) api.Value { return api.Value{Kind: api.Int, N: n} }

func rat(n, d int64) api.Value { return api.Value{Kind: api.Rat, N: n, D: d} }

func str(s string) api.Value { return api.Value{Kind: api.Str, S: s} }

func row(l ...api.Value) []api.Value { return l }

func names(l ...string) []string { return l }

func list(l ...api.Table) []api.Table { return l }

func put(vars []string, rows ...[]api.Value) api.Table { return api.Table{Vars: vars, Rows: rows} }

// ints is a table of Ints, a letter of vars for each variable, as many numbers in a row as there are of them.
func ints(vars string, l ...int64) api.Table {
	t := put(letters(vars))
	for each := range slices.Chunk(l, max(1, len(vars))) {
		var r []api.Value
		for _, n := range each {
			r = append(r, num(n))
		}
		t.Rows = append(t.Rows, r)
	}
	return t
}

func letters(vars string) []string { return slices.Collect(strings.SplitSeq(vars, ""))[:len(vars)] }

// edges is the chapter's e, of any two variables; yes and no are the tables without variables.
func edges(vars string) api.Table { return ints(vars, 1, 2, 1, 3, 2, 3, 3, 4) }

func yes() api.Table { return put(nil, row()) }

func no() api.Table { return put(nil) }

func nought() api.Table { return api.Table{} }

// alike is whether two tables are the same, without asking the program.
func alike(a, b api.Table) bool {
	return slices.Equal(a.Vars, b.Vars) && slices.EqualFunc(a.Rows, b.Rows, slices.Equal)
}

func want(t *testing.T, what string, got api.Table, e api.Errno, w api.Table, f api.Errno) {
	t.Helper()
	if e != f || !alike(got, w) {
		t.Errorf("%s is %v, %d, not %v, %d", what, got, e, w, f)
	}
}

// TestJoinExamples: P4.1, the chapter's, and edges.
func TestJoinExamples(t *testing.T) {
	e := edges("xy")
	for i, c := range []struct {
		pos, neg []api.Table
		w        api.Table
	}{
		{list(e, edges("yz"), edges("xz")), nil, ints("xyz", 1, 2, 3)},
		{list(e), list(ints("y", 3)), ints("xy", 1, 2, 3, 4)},
		{list(e), list(ints("q", 1)), ints("xy")},
		{list(e), list(ints("q")), e},
		{list(e), nil, e},
		{list(e), list(), e},
		{nil, nil, yes()},
		{list(), list(), yes()},
		{nil, list(yes()), no()},
		{nil, list(no()), yes()},
		{nil, list(ints("q", 1)), no()},
		{nil, list(ints("q")), yes()},
		{nil, list(no(), ints("q"), ints("x")), yes()},
		{nil, list(no(), ints("q"), ints("x", 5)), no()},
		{list(e), list(yes()), ints("xy")},
		{list(e), list(no()), e},
		{list(yes()), nil, yes()},
		{list(no()), nil, no()},
		{list(no()), list(no()), no()},
		{list(yes(), no()), nil, no()},
		{list(no(), yes()), nil, no()},
		{list(yes(), yes()), list(yes()), no()},
		{list(yes(), e), nil, e},
		{list(e, yes()), nil, e},
		{list(no(), e), nil, ints("xy")},
		{list(e, no()), nil, ints("xy")},
		{list(e), list(e), ints("xy")},
		{list(e), list(ints("xy", 1, 3, 2, 2, 3, 4)), ints("xy", 1, 2, 2, 3)},
		{list(e), list(ints("qy", 9, 3, 9, 5)), ints("xy", 1, 2, 3, 4)},
		{list(e), list(ints("x", 1), ints("y", 4)), ints("xy", 2, 3)},
		{list(ints("x", 1, 2), ints("y", 3, 4)), nil, ints("xy", 1, 3, 1, 4, 2, 3, 2, 4)},
		{list(ints("y", 3, 4), ints("x", 1, 2)), nil, ints("xy", 1, 3, 1, 4, 2, 3, 2, 4)},
		{list(ints("x", 1, 2), ints("y", 3, 4)), list(ints("xy", 1, 4, 2, 3)), ints("xy", 1, 3, 2, 4)},
		{list(ints("x", 1), ints("y")), nil, ints("xy")},
		{list(ints("x", 1, 2, 3), ints("x", 2, 3, 4)), nil, ints("x", 2, 3)},
		{list(ints("x", 1, 2), ints("x", 3, 4)), nil, ints("x")},
		{list(e, edges("yz")), list(ints("xz", 1, 3), ints("y", 3)), ints("xyz")},
		{list(e, edges("yz")), list(ints("xz", 1, 3)), ints("xyz", 1, 3, 4, 2, 3, 4)},
		{list(put(names("x"), row(num(1)), row(rat(1, 1)), row(str("1")))), list(put(names("x"), row(rat(1, 1)))), put(names("x"), row(num(1)), row(str("1")))},
		{list(put(names("x"), row(num(1)), row(rat(1, 1)), row(str("1"))), put(names("x"), row(rat(1, 1)), row(str("1")))), nil, put(names("x"), row(rat(1, 1)), row(str("1")))},
		{list(put(names("", "\xff"), row(num(1), num(2))), put(names("\xff"), row(num(2)))), nil, put(names("", "\xff"), row(num(1), num(2)))},
	} {
		got, e := mjoin.Join(c.pos, c.neg)
		want(t, fmt.Sprint(i), got, e, c.w, api.OK)
	}
}

// TestJoinVars: P4.1, as many variables together as may be, and one more, in few tables and in many; those of neg don't count.
func TestJoinVars(t *testing.T) {
	wide := func(vars string) api.Table { return put(letters(vars), slices.Repeat(row(num(7)), len(vars))) }
	eight := wide("abcdefgh")
	lone := func(vars string) []api.Table {
		var l []api.Table
		for i := range vars {
			l = append(l, wide(vars[i:i+1]))
		}
		return l
	}
	for i, c := range []struct {
		pos, neg []api.Table
		w        api.Table
		e        api.Errno
	}{
		{list(eight), nil, eight, api.OK},
		{list(eight, wide("ah"), wide("h"), eight), nil, eight, api.OK},
		{lone("hgfedcba"), nil, eight, api.OK},
		{list(wide("abcd"), wide("efgh")), nil, eight, api.OK},
		{list(wide("abcde"), wide("defgh")), nil, eight, api.OK},
		{list(eight), list(ints("i")), eight, api.OK},
		{list(eight), list(ints("i", 7)), put(eight.Vars), api.OK},
		{list(eight), list(wide("hijklmno")), put(eight.Vars), api.OK},
		{list(eight), list(put(letters("hijklmno"), slices.Repeat(row(num(8)), 8))), eight, api.OK},
		{list(eight), list(ints("ijklmnop"), ints("qrstuvwx")), eight, api.OK},
		{nil, list(ints("ijklmnop"), ints("qrstuvwx")), yes(), api.OK},
		{list(eight, wide("i")), nil, nought(), api.ErrVars},
		{list(wide("i"), eight), nil, nought(), api.ErrVars},
		{list(eight, ints("i")), nil, nought(), api.ErrVars},
		{list(put(eight.Vars), ints("i")), nil, nought(), api.ErrVars},
		{list(no(), eight, wide("i")), nil, nought(), api.ErrVars},
		{list(wide("abcde"), wide("efghi")), nil, nought(), api.ErrVars},
		{list(wide("abcde"), wide("efghi"), wide("a")), list(eight), nought(), api.ErrVars},
		{lone("abcdefghi"), nil, nought(), api.ErrVars},
		{lone("abcdefghijklmnopqrstuvwxyz"), list(yes()), nought(), api.ErrVars},
	} {
		got, e := mjoin.Join(c.pos, c.neg)
		want(t, fmt.Sprint("Join ", i), got, e, c.w, c.e)
		order, e := mjoin.Order(c.pos)
		if e != c.e || len(order) != len(c.w.Vars) {
			t.Errorf("Order %d is %v, %d", i, order, e)
		}
	}
}

type wrongTable struct {
	t api.Table
	e api.Errno
}

// mayNot are tables that may not be, each with its error.
func mayNot() []wrongTable {
	x := names("x")
	return []wrongTable{
		{put(names("y", "x")), api.ErrVars},
		{put(names("x", "x")), api.ErrVars},
		{ints("abcdefghi"), api.ErrVars},
		{put(x, row()), api.ErrArg},
		{put(nil, row(), row()), api.ErrArg},
		{put(nil, row(num(1))), api.ErrArg},
		{ints("x", 2, 1), api.ErrArg},
		{ints("x", 1, 1), api.ErrArg},
		{ints("xy", 1, 2, 1, 1), api.ErrArg},
		{put(x, row(api.Value{})), api.ErrKind},
		{put(x, row(rat(2, 4))), api.ErrKind},
		{put(x, row(str(strings.Repeat("x", 65)))), api.ErrLong},
		{put(names("q"), row(api.Value{Kind: 4})), api.ErrKind},
	}
}

// refused tries a call that must answer an error, and Order of pos, where neg is empty.
func refused(t *testing.T, pos, neg []api.Table, e api.Errno) {
	t.Helper()
	got, f := mjoin.Join(pos, neg)
	want(t, fmt.Sprintf("Join(%v, %v)", pos, neg), got, f, nought(), e)
	if len(neg) > 0 {
		return
	}
	if l, f := mjoin.Order(pos); f != e || len(l) > 0 {
		t.Errorf("Order(%v) is %v, %d, not %d", pos, l, f, e)
	}
}

// TestJoinRefuses: P4.1 and P4.2, the first table's error, of pos ahead of neg, and any of them ahead of too many variables.
func TestJoinRefuses(t *testing.T) {
	many := list(ints("abcdefgh"), ints("i"))
	may := [][]api.Table{nil, list(yes()), list(no()), list(edges("xy"), ints("x", 1)), list(ints("x"))}
	for _, c := range mayNot() {
		for _, l := range append(may, many) {
			refused(t, list(c.t), l, c.e)
			refused(t, append(slices.Clone(l), c.t), nil, c.e)
			refused(t, append(list(c.t), l...), nil, c.e)
			refused(t, l, list(c.t), c.e)
			refused(t, l, append(slices.Clone(l), c.t), c.e)
			refused(t, append(list(c.t), l...), many, c.e)
		}
		for _, d := range mayNot() {
			refused(t, list(c.t, d.t), nil, c.e)
			refused(t, list(c.t), list(d.t), c.e)
			refused(t, nil, list(c.t, d.t), c.e)
			refused(t, list(yes(), c.t, yes(), d.t), nil, c.e)
			refused(t, list(many[0], c.t, many[1], d.t), nil, c.e)
			refused(t, many, list(yes(), c.t, d.t), c.e)
		}
	}
	for _, l := range may {
		refused(t, many, l, api.ErrVars)
		refused(t, append(slices.Clone(l), many...), nil, api.ErrVars)
	}
}

// record is a row that knows its variables: what Join means is said of it without columns.
type record map[string]api.Value

func records(t api.Table) []record {
	var l []record
	for _, values := range t.Rows {
		r := record{}
		for i, v := range t.Vars {
			r[v] = values[i]
		}
		l = append(l, r)
	}
	return l
}

func (r record) fits(s record) bool {
	for v, one := range r {
		if other, ok := s[v]; ok && other != one {
			return false
		}
	}
	return true
}

func variables(tables []api.Table) []string {
	var all []string
	for _, t := range tables {
		all = append(all, t.Vars...)
	}
	return slices.Compact(slices.Sorted(slices.Values(all)))
}

// valuesOf is every value that a variable has in a table.
func valuesOf(tables []api.Table, name string) []api.Value {
	var all []api.Value
	for _, t := range tables {
		for _, r := range records(t) {
			if v, ok := r[name]; ok {
				all = append(all, v)
			}
		}
	}
	slices.SortFunc(all, value.Compare)
	return slices.Compact(all)
}

// everyRow is all rows of values for variables, be they in a table or not; they rise.
func everyRow(tables []api.Table, vars []string) [][]api.Value {
	all := [][]api.Value{row()}
	for _, v := range vars {
		var longer [][]api.Value
		for _, r := range all {
			for _, one := range valuesOf(tables, v) {
				longer = append(longer, append(slices.Clone(r), one))
			}
		}
		all = longer
	}
	return all
}

// meant is what Join must answer, word by word as it is promised.
func meant(pos, neg []api.Table) api.Table {
	w := put(variables(pos))
	all := put(w.Vars, everyRow(pos, w.Vars)...)
	for i, r := range records(all) {
		fits := func(t api.Table) bool { return slices.ContainsFunc(records(t), r.fits) }
		misses := func(t api.Table) bool { return !fits(t) }
		if !slices.ContainsFunc(pos, misses) && !slices.ContainsFunc(neg, fits) {
			w.Rows = append(w.Rows, all.Rows[i])
		}
	}
	return w
}

func try(t *testing.T, pos, neg []api.Table) {
	t.Helper()
	got, e := mjoin.Join(pos, neg)
	want(t, fmt.Sprintf("Join(%v, %v)", pos, neg), got, e, meant(pos, neg), api.OK)
	if c := table.Check(got); c != api.OK {
		t.Errorf("Join(%v, %v) tells what may not be: %d", pos, neg, c)
	}
}

// small are all tables of some variables with the values 1 and 2.
func small(vars string) []api.Table {
	one, all := ints("", 1), ints("", 1)
	for i := range vars {
		one = ints(vars[i:i+1], 1, 2)
		all = put(letters(vars[:i+1]), everyRow(list(all, one), letters(vars[:i+1]))...)
	}
	var l []api.Table
	for set := range 1 << len(all.Rows) {
		t := put(all.Vars)
		for i, r := range all.Rows {
			if set>>i&1 == 1 {
				t.Rows = append(t.Rows, r)
			}
		}
		l = append(l, t)
	}
	return l
}

// TestJoinSmall: P4.1, of all three tables of two values, and of one and two with others to be rid of.
func TestJoinSmall(t *testing.T) {
	l := slices.Concat(list(no(), yes()), small("x"), small("y"), small("xy"))
	ends := slices.Concat(list(no(), yes()), small("x"), small("z"), small("yz"))
	for _, x := range l {
		try(t, list(x), nil)
		try(t, nil, list(x))
		for _, y := range ends {
			try(t, list(x, y), nil)
			try(t, list(x), list(y))
			try(t, nil, list(x, y))
		}
	}
	for _, x := range small("xy") {
		for _, y := range small("yz") {
			for _, z := range small("xz") {
				try(t, list(x, y, z), nil)
				try(t, list(x, y), list(z))
				try(t, list(x), list(y, z))
			}
		}
	}
}

// stream is a row of numbers that look like chance and are the same each time.
type stream uint64

func (s *stream) below(n int) int {
	x := uint64(*s)
	x ^= x << 13
	x ^= x >> 7
	x ^= x << 17
	*s = stream(x)
	return int(x % uint64(n))
}

func pool() []api.Value {
	return row(num(-1), num(1), rat(1, 1), rat(3, 2), str(""), str("1"))
}

// table is of some of the variables; of each two values stand there often.
func (s *stream) table(vars []string, most int) api.Table {
	t := nought()
	for _, v := range vars {
		if s.below(2) == 0 && len(t.Vars) < most {
			t.Vars = append(t.Vars, v)
		}
	}
	for range s.below(3) * s.below(9) {
		var r []api.Value
		for _, v := range t.Vars {
			r = append(r, pool()[(int(v[0])+s.below(2))%len(pool())])
		}
		t.Rows = append(t.Rows, r)
	}
	if s.below(8) > 0 && len(t.Rows) == 0 {
		t.Rows = [][]api.Value{slices.Repeat(row(num(1)), len(t.Vars))}
	}
	slices.SortFunc(t.Rows, value.CompareRow)
	t.Rows = slices.CompactFunc(t.Rows, slices.Equal)
	return t
}

func (s *stream) tables(vars []string, n, most int) []api.Table {
	var l []api.Table
	for range n {
		l = append(l, s.table(vars, most))
	}
	return l
}

func (s *stream) shuffled(l []api.Table) []api.Table {
	l = slices.Clone(l)
	for i := range l {
		k := i + s.below(len(l)-i)
		l[i], l[k] = l[k], l[i]
	}
	return l
}

// TestJoinMany: P4.1, of many lists of tables of all kinds.
func TestJoinMany(t *testing.T) {
	s := stream(11)
	for range 3000 {
		vars := letters("abcde")[:1+s.below(5)]
		neg := append(slices.Clone(vars), "p", "q")
		try(t, s.tables(vars, s.below(6), 3), s.tables(neg, s.below(3)*s.below(2), 4))
	}
}

// chosen are tables that hang together by few variables: in rows, in rings, at one variable, and in parts.
func chosen(s *stream) []api.Table {
	shapes := [][]string{
		{"ab", "bc", "cd", "de"}, {"ad", "bd", "be", "ce"}, {"ab", "bc", "cd", "ad"}, {"ae", "be", "ce", "de"},
		{"ab", "bc", "ac", "cd", "de", "ce"}, {"abc", "cde", "ae"}, {"ab", "cd", "e"}, {"ab", "ac", "ad", "ae", "de"},
		{"ab", "ab", "cd", "cd"}, {"abcde", "ab", "cd"}, {"bd", "ad", "ac", "ce", "c"}, {"", "ab", "ce", "d"},
	}
	var l []api.Table
	for _, vars := range shapes[s.below(len(shapes))] {
		var numbers []int64
		n := 1 + s.below(8)
		if vars == "" {
			n = 1
		}
		for range n * len(vars) {
			numbers = append(numbers, int64(s.below(3)))
		}
		x := ints(vars, numbers...)
		if vars == "" {
			x = yes()
		}
		slices.SortFunc(x.Rows, value.CompareRow)
		x.Rows = slices.CompactFunc(x.Rows, slices.Equal)
		l = append(l, x)
	}
	return l
}

// TestJoinShapes: P4.1, of tables that hang together in all ways in which variables are looked for one behind the other.
func TestJoinShapes(t *testing.T) {
	s := stream(3)
	for range 1500 {
		try(t, s.shuffled(chosen(&s)), nil)
	}
}

// TestOrderExamples: P4.2, the chapter's, and edges.
func TestOrderExamples(t *testing.T) {
	e, f := edges("xy"), edges("yz")
	for i, c := range []struct {
		pos []api.Table
		w   string
	}{
		{list(e, f, ints("y", 3)), "yxz"},
		{list(ints("b", 1, 2), ints("a", 1, 2), ints("c", 1)), "cab"},
		{nil, ""},
		{list(), ""},
		{list(yes(), no()), ""},
		{list(ints("c", 1), ints("b", 1), ints("a", 1)), "abc"},
		{list(ints("abc")), "abc"},
		{list(ints("xy", 1, 1, 2, 2), ints("xz", 1, 1), ints("y", 1, 2, 3)), "xyz"},
		{list(ints("xy", 1, 1, 2, 2), ints("yz", 1, 1), ints("x", 1, 2, 3)), "yxz"},
		{list(ints("x", 1, 2, 3), ints("yz", 1, 1), ints("xy", 1, 1, 2, 2)), "yxz"},
		{list(ints("z", 1, 2, 3), ints("z", 1, 2, 3), ints("a")), "za"},
		{list(ints("z", 1, 2, 3), ints("z", 1), ints("a", 1, 2), ints("a", 1, 2)), "za"},
		{list(ints("z", 1), ints("z", 1, 2, 3), ints("a", 1, 2), ints("a", 1, 2)), "za"},
		{list(ints("z", 1, 2, 3), ints("z", 1, 2), ints("a", 1, 2), ints("a", 1, 2, 3, 4)), "az"},
		{list(ints("b"), ints("a", 1)), "ba"},
		{list(e, f, edges("xz")), "xyz"},
		{list(ints("abcdefgh"), ints("h"), ints("gh")), "hgabcdef"},
	} {
		if got, e := mjoin.Order(c.pos); e != api.OK || !slices.Equal(got, letters(c.w)) {
			t.Errorf("%d: %v, %d, not %s", i, got, e, c.w)
		}
	}
	odd := list(put(names("\xff")), put(names("B", "a")), put(names("")), put(names("ab")), put(names("not")))
	if got, e := mjoin.Order(odd); e != api.OK || !slices.Equal(got, names("", "B", "a", "ab", "not", "\xff")) {
		t.Errorf("%q, %d", got, e)
	}
}

// ahead is whether one variable comes ahead of another, as it is promised.
func ahead(pos []api.Table, one, other string) bool {
	count := func(name string) (tables, shortest int) {
		shortest = 1 << 30
		for _, t := range pos {
			if slices.Contains(t.Vars, name) {
				tables++
				shortest = min(shortest, len(t.Rows))
			}
		}
		return tables, shortest
	}
	n, s := count(one)
	m, r := count(other)
	if n != m {
		return n > m
	}
	if s != r {
		return s < r
	}
	return one < other
}

// TestOrderMany: P4.2, of many lists; it does not hang on the order in which tables are handed in.
func TestOrderMany(t *testing.T) {
	s := stream(29)
	for range 5000 {
		pos := s.tables(letters("abcdefgh"), s.below(6), 8)
		got, e := mjoin.Order(pos)
		if e != api.OK || !slices.Equal(slices.Sorted(slices.Values(got)), variables(pos)) {
			t.Fatalf("Order(%v) is %v, %d", pos, got, e)
		}
		for i := 1; i < len(got); i++ {
			if !ahead(pos, got[i-1], got[i]) {
				t.Errorf("Order(%v) is %v", pos, got)
			}
		}
		if other, e := mjoin.Order(s.shuffled(pos)); e != api.OK || !slices.Equal(got, other) {
			t.Errorf("Order(%v) is %v, and %v, %d in another order", pos, got, other, e)
		}
	}
}

func must(t *testing.T) func(x api.Table, e api.Errno) api.Table {
	return func(x api.Table, e api.Errno) api.Table {
		t.Helper()
		if e != api.OK {
			t.Fatalf("the error %d", e)
		}
		return x
	}
}

// folded is Join by the calls of table, one table after the other.
func folded(t *testing.T, pos, neg []api.Table) api.Table {
	ok := must(t)
	all := table.True()
	for _, x := range pos {
		all = ok(table.Join(all, x))
	}
	for _, x := range neg {
		all = ok(table.Anti(all, x))
	}
	return all
}

// TestFold: P4.3, table by table it is the same, in whatever order, and with tables that stand there twice.
func TestFold(t *testing.T) {
	s, ok := stream(7), must(t)
	for round := range 3000 {
		vars := letters("abcdefgh")[:1+s.below(8)]
		pos, neg := s.tables(vars, s.below(6), 4), s.tables(append(vars, "q"), s.below(3), 4)
		if round%3 == 0 {
			pos = chosen(&s)
		}
		w := folded(t, pos, neg)
		want(t, "Join", ok(mjoin.Join(pos, neg)), 0, w, 0)
		want(t, "table by table in another order", folded(t, s.shuffled(pos), s.shuffled(neg)), 0, w, 0)
		want(t, "Join in another order", ok(mjoin.Join(s.shuffled(pos), s.shuffled(neg))), 0, w, 0)
		twice := slices.Concat(pos, s.shuffled(pos))
		again := slices.Concat(neg, s.shuffled(neg), neg)
		want(t, "Join with all tables twice", ok(mjoin.Join(twice, neg)), 0, w, 0)
		want(t, "Join with all tables of neg again", ok(mjoin.Join(pos, again)), 0, w, 0)
	}
}

// TestMore: P4.4, a table more, whose variables the others have, adds no row.
func TestMore(t *testing.T) {
	s, ok := stream(13), must(t)
	for range 3000 {
		pos, neg := s.tables(letters("abcdef"), 1+s.below(4), 4), s.tables(letters("abcdefq"), s.below(3), 4)
		more := s.table(variables(pos), 8)
		all := ok(mjoin.Join(pos, neg))
		for _, fewer := range list(ok(mjoin.Join(append(slices.Clone(pos), more), neg)), ok(mjoin.Join(append(list(more), pos...), neg)), ok(mjoin.Join(pos, append(slices.Clone(neg), more)))) {
			if !slices.Equal(fewer.Vars, all.Vars) {
				t.Fatalf("the variables %v, not %v", fewer.Vars, all.Vars)
			}
			for _, r := range fewer.Rows {
				if !slices.ContainsFunc(all.Rows, func(other []api.Value) bool { return slices.Equal(r, other) }) {
					t.Errorf("with %v more %v comes to %v", more, r, all)
				}
			}
		}
	}
}

// roomy is tables whose lists have room behind them, and all of what stands in them and in that room.
func roomy(l []api.Table) ([]api.Table, func() string) {
	tables := append(slices.Clone(l), ints("x", 3, 2, 1), yes())
	var kept []any
	for i, x := range l {
		vars := append(slices.Clone(x.Vars), "behind", "too")
		rows := append(slices.Clone(x.Rows), nil, row(num(99)))
		for k, r := range x.Rows {
			all := append(slices.Clone(r), num(98), num(97))
			kept = append(kept, all)
			rows[k] = all[:len(r)]
		}
		kept = append(kept, vars, rows)
		tables[i] = api.Table{Vars: vars[:len(x.Vars)], Rows: rows[:len(x.Rows)]}
	}
	return tables[:len(l)], func() string { return fmt.Sprint(tables, kept) }
}

// alone writes into each list of an answer, and into the room behind it, and sees whether that shows in another one.
func alone(t *testing.T, x api.Table) {
	t.Helper()
	rows := x.Rows[:cap(x.Rows)]
	for i := range len(x.Rows) {
		all := rows[i][:cap(rows[i])]
		for k := range all {
			all[k] = api.Value{Kind: i, N: int64(k)}
		}
	}
	for i := range len(x.Rows) {
		for k, v := range rows[i][:cap(rows[i])] {
			if v != (api.Value{Kind: i, N: int64(k)}) {
				t.Error("two rows share room")
			}
		}
	}
	clear(rows)
	written(x.Vars)
}

func written(l []string) {
	for i := range l[:cap(l)] {
		l[:cap(l)][i] = "written"
	}
}

// TestMemory: rule R4, what is handed in stays as it is, and what is answered is new.
func TestMemory(t *testing.T) {
	s := stream(19)
	for range 1000 {
		l := s.tables(letters("abcde"), s.below(4), 3)
		if s.below(10) == 0 {
			l = append(l, mayNot()[s.below(len(mayNot()))].t)
		}
		pos, first := roomy(l)
		neg, second := roomy(s.tables(letters("abcdeq"), s.below(3), 3))
		f, g := first(), second()
		got, _ := mjoin.Join(pos, neg)
		alone(t, got)
		got, _ = mjoin.Join(pos, nil)
		alone(t, got)
		order, _ := mjoin.Order(pos)
		written(order)
		if first() != f || second() != g {
			t.Fatalf("%v or %v was changed", pos, neg)
		}
	}
}

// TestOneAnswer: rule R5, the same again of the same.
func TestOneAnswer(t *testing.T) {
	s := stream(5)
	for range 300 {
		pos, neg := s.tables(letters("abcdef"), s.below(5), 3), s.tables(letters("abcdefq"), s.below(3), 3)
		w, f := mjoin.Join(pos, neg)
		order, _ := mjoin.Order(pos)
		for range 4 {
			got, e := mjoin.Join(pos, neg)
			want(t, "Join", got, e, w, f)
			if again, _ := mjoin.Order(pos); !slices.Equal(again, order) {
				t.Errorf("Order is %v, then %v", order, again)
			}
		}
	}
}

const great = 1 << 16

// made is a table of two variables, with a row for each number.
func made(vars string, n int64, does func(i int64) (a, b int64)) api.Table {
	t := put(letters(vars))
	for i := range n {
		a, b := does(i)
		t.Rows = append(t.Rows, row(num(a), num(b)))
	}
	slices.SortFunc(t.Rows, value.CompareRow)
	t.Rows = slices.CompactFunc(t.Rows, slices.Equal)
	return t
}

// TestGreatRing: rule R6, three tables each two of which have far more than 2^16 rows together.
func TestGreatRing(t *testing.T) {
	const n = great / 4
	hub := func(i int64) (a, b int64) {
		if i%2 == 0 {
			return 0, i / 2
		}
		return i / 2, 0
	}
	w := put(letters("xyz"))
	for i := range int64(n) {
		w.Rows = append(w.Rows, row(num(i), num(0), num(0)), row(num(0), num(i), num(0)), row(num(0), num(0), num(i)))
	}
	slices.SortFunc(w.Rows, value.CompareRow)
	w.Rows = slices.CompactFunc(w.Rows, slices.Equal)
	got, e := mjoin.Join(list(made("xy", 2*n, hub), made("yz", 2*n, hub), made("xz", 2*n, hub)), nil)
	if e != api.OK || !alike(got, w) {
		t.Errorf("%d rows, %d, not %d", len(got.Rows), e, len(w.Rows))
	}
}

// TestGreatRow: rule R6, tables that hang together one by one, of which the first two variables by Order have none together.
func TestGreatRow(t *testing.T) {
	next := func(i int64) (a, b int64) { return i, (i * 7) % great }
	back := func(i int64) (a, b int64) { return (i * 7) % great, i }
	pos := list(made("ad", great, next), made("be", great, back), made("ac", great, back), made("bc", great, next))
	got, e := mjoin.Join(pos, nil)
	if e != api.OK || len(got.Rows) != great {
		t.Fatalf("%d rows, %d", len(got.Rows), e)
	}
	for _, r := range got.Rows {
		a, b, c, d, f := r[0].N, r[1].N, r[2].N, r[3].N, r[4].N
		if d != a*7%great || b != f*7%great || a != c*7%great || c != b*7%great {
			t.Fatalf("the row %v", r)
		}
	}
}

// TestGreatApart: rule R6, tables that rule each other out, beside and behind others that don't.
func TestGreatApart(t *testing.T) {
	same := func(i int64) (a, b int64) { return i, i }
	far := func(i int64) (a, b int64) { return i + great, i }
	first := func(i int64) (a, b int64) { return i, 0 }
	second := func(i int64) (a, b int64) { return 0, i }
	for i, c := range []struct {
		pos  []api.Table
		vars string
	}{
		{list(made("ab", great, same), made("ab", great, same), made("cd", great, same), made("cd", great, far)), "abcd"},
		{list(made("ab", great, same), made("bc", great, first), made("cd", great, second), made("de", great, far)), "abcde"},
		{list(made("ab", great, second), made("ac", great, second), made("ad", great, second), made("de", great, far)), "abcde"},
		{list(ints("x"), made("ab", great, same), made("cd", great, same)), "abcdx"},
		{list(made("ab", great, same), made("cd", great, same), no()), "abcd"},
	} {
		got, e := mjoin.Join(c.pos, nil)
		want(t, fmt.Sprint(i), got, e, put(letters(c.vars)), api.OK)
	}
}

// TestGreatList: rule R6, as many tables, and as many rows in two that have no variable together.
func TestGreatList(t *testing.T) {
	ok := must(t)
	w := made("ab", great, func(i int64) (a, b int64) { return i / 256, i % 256 })
	pos := list(ok(table.Project(w, names("b"))), ok(table.Project(w, names("a"))))
	want(t, "two apart", ok(mjoin.Join(pos, nil)), 0, w, 0)
	want(t, "less one", ok(mjoin.Join(pos, list(put(w.Vars, w.Rows[1:]...)))), 0, put(w.Vars, w.Rows[0]), 0)
	many := slices.Concat(slices.Repeat(list(ints("a", 1, 2)), great), slices.Repeat(list(ints("ab", 2, 3)), great))
	want(t, "many tables", ok(mjoin.Join(many, slices.Repeat(list(ints("b", 1, 2)), great))), 0, ints("ab", 2, 3), 0)
	if l, e := mjoin.Order(many); e != api.OK || !slices.Equal(l, names("a", "b")) {
		t.Errorf("Order is %v, %d", l, e)
	}
}
