package aggreg_test

import (
	"math/big"
	"slices"
	"strings"
	"testing"

	"custos/aggreg"
	"custos/api"
	"custos/table"
	"custos/value"
)

// stream is numbers that look as if by chance, the same at each run.
type stream uint64

func (s *stream) next() uint64 {
	x := uint64(*s)
	x ^= x << 13
	x ^= x >> 7
	x ^= x << 17
	*s = stream(x)
	return x
}

func (s *stream) below(n int) int { return int(s.next() % uint64(n)) }

func (s *stream) chance(n int) bool { return s.below(n) == 0 }

func pick[T any](s *stream, l ...T) T { return l[s.below(len(l))] }

// number is small, or at the edge of int64, or anything between.
func (s *stream) number() int64 {
	switch s.below(4) {
	case 0:
		return pick(s, int64(most), most-1, most/2, most/3, least, least+1, least/2, 1<<62, -1<<62)
	case 1:
		return int64(s.next()) >> s.below(64)
	}
	return int64(s.below(7)) - 3
}

func (s *stream) value(kind int) api.Value {
	switch kind {
	case api.Int:
		return num(s.number())
	case api.Rat:
		q := big.NewRat(s.number(), 1+int64(s.below(4)))
		if s.chance(4) {
			q = big.NewRat(s.number(), 1+s.number()&(most>>1))
		}
		return rat(q.Num().Int64(), q.Denom().Int64())
	}
	return str(pick(s, "", "a", "b", "ab", "\x00", "\xff"))
}

// table is of some letters with x among them; the values at x are of one kind, the others of few worths, so that groups are alike.
func (s *stream) table(kind int) api.Table {
	t := put(nil)
	for _, v := range letters("abcxz") {
		if v == "x" || s.chance(2) {
			t.Vars = append(t.Vars, v)
		}
	}
	for range s.below(9) {
		var r []api.Value
		for _, v := range t.Vars {
			if v == "x" {
				r = append(r, s.value(kind))
				continue
			}
			r = append(r, pick(s, num(0), num(1), rat(1, 1), str("1")))
		}
		t.Rows = append(t.Rows, r)
	}
	slices.SortFunc(t.Rows, value.CompareRow)
	t.Rows = slices.CompactFunc(t.Rows, slices.Equal)
	return t
}

// call is good for the most part, and wrong in one way or several now and then.
func (s *stream) call() call {
	kind := pick(s, kinds()...)
	c := call{op: pick(s, operations()...), t: s.table(kind), x: "x", name: pick(s, "y", "x", "A", "z", "bb"), kind: kind}
	for _, v := range c.t.Vars {
		if s.chance(2) && (v != c.name || s.chance(8)) {
			c.groups = slices.Insert(c.groups, s.below(len(c.groups)+1), v)
		}
	}
	if s.chance(10) {
		c.kind = s.below(5)
	}
	if s.chance(20) {
		c.op = pick(s, -1, 0, 7)
	}
	if s.chance(20) {
		c.x = pick(s, "q", "a", "")
	}
	if s.chance(20) {
		c.groups = append(c.groups, pick(s, letters("abcxzq")...))
	}
	if s.chance(20) && len(c.t.Rows) > 0 {
		c.t.Rows = append(c.t.Rows, pick(s, c.t.Rows...))
	}
	return c
}

func must(t *testing.T, c call) api.Table {
	t.Helper()
	got, e := c.do()
	if e != api.OK {
		t.Fatalf("Do(%v) is %d", c, e)
	}
	return got
}

func worth(v api.Value) *big.Rat {
	if v.Kind == api.Int {
		return big.NewRat(v.N, 1)
	}
	return big.NewRat(v.N, v.D)
}

// narrow is a fraction as a Rat, and false where it is beyond int64.
func narrow(q *big.Rat) (api.Value, bool) {
	if !q.Num().IsInt64() || !q.Denom().IsInt64() {
		return api.Value{}, false
	}
	return rat(q.Num().Int64(), q.Denom().Int64()), true
}

// modelSum is P12.3's Sum, as a fraction.
func modelSum(l []api.Value, kind int) (*big.Rat, bool) {
	sum := new(big.Rat)
	for _, v := range l {
		sum.Add(sum, worth(v))
		if _, ok := narrow(sum); kind == api.Rat && !ok {
			return nil, false
		}
	}
	_, ok := narrow(sum)
	return sum, ok
}

// modelMade is P12.3 as it stands there, in numbers without end; false where it is over.
func modelMade(op int, l []api.Value, kind int) (api.Value, bool) {
	ordered := slices.Clone(l)
	slices.SortStableFunc(ordered, value.Compare)
	switch op {
	case api.Cnt:
		return num(int64(len(l))), true
	case api.Min:
		return ordered[0], true
	case api.Max:
		return ordered[len(l)-1], true
	case api.Med:
		low, high := worth(ordered[(len(l)-1)/2]), worth(ordered[len(l)/2])
		if len(l)%2 == 1 {
			return narrow(high)
		}
		both := new(big.Rat).Add(low, high)
		if _, ok := narrow(both); !ok {
			return api.Value{}, false
		}
		return narrow(both.Quo(both, big.NewRat(2, 1)))
	}
	sum, ok := modelSum(l, kind)
	if !ok {
		return api.Value{}, false
	}
	if op == api.Avg {
		return narrow(sum.Quo(sum, big.NewRat(int64(len(l)), 1)))
	}
	if kind == api.Int {
		return num(sum.Num().Int64()), true
	}
	return narrow(sum)
}

// modelErrors are P12.2's, one by one.
func modelErrors(c call) api.Errno {
	if c.op < 1 || c.op > 6 {
		return api.ErrArg
	}
	if c.kind < 1 || c.kind > 3 || c.kind == api.Str && strings.ContainsRune("\x01\x05\x06", rune(c.op)) {
		return api.ErrKind
	}
	if e := table.Check(c.t); e != api.OK {
		return e
	}
	counts := map[string]int{}
	for _, g := range c.groups {
		counts[g]++
		if !slices.Contains(c.t.Vars, g) || counts[g] > 1 || g == c.name {
			return api.ErrVars
		}
	}
	if !slices.Contains(c.t.Vars, c.x) || len(c.groups) == 8 {
		return api.ErrVars
	}
	for _, r := range c.t.Rows {
		if r[slices.Index(c.t.Vars, c.x)].Kind != c.kind {
			return api.ErrKind
		}
	}
	return api.OK
}

func at(t api.Table, r []api.Value, vars []string) []api.Value {
	var l []api.Value
	for _, v := range vars {
		l = append(l, r[slices.Index(t.Vars, v)])
	}
	return l
}

// model is P12.2 row by row: each row tells its group, by looking through all others; no map, no groups.
func model(c call) (api.Table, api.Errno) {
	if e := modelErrors(c); e != api.OK {
		return nought(), e
	}
	vars := append(slices.Clone(c.groups), c.name)
	slices.Sort(vars)
	w := put(vars)
	if len(c.t.Rows) == 0 && len(c.groups) == 0 && (c.op == api.Sum || c.op == api.Cnt) {
		zero := num(0)
		if c.op == api.Sum && c.kind == api.Rat {
			zero = rat(0, 1)
		}
		return put(vars, row(zero)), api.OK
	}
	for _, r := range c.t.Rows {
		mine := at(c.t, r, c.groups)
		var l []api.Value
		for _, other := range c.t.Rows {
			if slices.Equal(at(c.t, other, c.groups), mine) {
				l = append(l, at(c.t, other, names(c.x))...)
			}
		}
		v, ok := modelMade(c.op, l, c.kind)
		if !ok {
			return nought(), api.ErrOver
		}
		var answer []api.Value
		for _, name := range vars {
			if name == c.name {
				answer = append(answer, v)
				continue
			}
			answer = append(answer, at(c.t, r, names(name))...)
		}
		w.Rows = append(w.Rows, answer)
	}
	slices.SortFunc(w.Rows, value.CompareRow)
	w.Rows = slices.CompactFunc(w.Rows, slices.Equal)
	return w, api.OK
}

// TestDoSmall: P12.2 and P12.3, all tables of few rows over three values, each operation, all ways of groups and name.
func TestDoSmall(t *testing.T) {
	var pairs [][]api.Value
	values := row(num(-1), num(2), num(most))
	for _, g := range row(num(0), num(1)) {
		for _, x := range values {
			pairs = append(pairs, row(g, x))
		}
	}
	for set := range 1 << len(pairs) {
		from := put(names("g", "x"))
		for i, p := range pairs {
			if set>>i&1 == 1 {
				from.Rows = append(from.Rows, p)
			}
		}
		for _, op := range operations() {
			for _, groups := range [][]string{nil, names("g"), names("x"), names("g", "x"), names("x", "g")} {
				for _, name := range names("a", "g", "h", "x", "y") {
					for _, x := range from.Vars {
						c := call{op, from, x, groups, name, api.Int}
						w, e := model(c)
						c.want(t, w, e)
					}
				}
			}
		}
	}
}

// TestDoMany: P12.2 and P12.3, many calls of all kinds, right ones and wrong ones; each answer and each error is met.
func TestDoMany(t *testing.T) {
	s := stream(3)
	met := map[api.Errno]int{}
	for range 60000 {
		c := s.call()
		w, e := model(c)
		met[e]++
		c.want(t, w, e)
	}
	for _, e := range []api.Errno{api.OK, api.ErrArg, api.ErrOver, api.ErrKind, api.ErrVars} {
		if met[e] < 500 {
			t.Errorf("%d is met %d times", e, met[e])
		}
	}
}

// good is calls that are told nothing wrong of, but what is over.
func good(s *stream, op int) call {
	for {
		c := s.call()
		c.op = op
		if modelErrors(c) == api.OK {
			return c
		}
	}
}

// TestGroupsAreProjected: P12.4, the groups are the rows of Project, and the answers may be and are of their kind.
func TestGroupsAreProjected(t *testing.T) {
	s := stream(17)
	for i := range 20000 {
		c := good(&s, operations()[i%6])
		got, e := c.do()
		if e == api.ErrOver || len(c.t.Rows) == 0 {
			continue
		}
		if table.Check(got) != api.OK {
			t.Fatalf("Do(%v) is %v, which may not be", c, got)
		}
		groups, f := table.Project(c.t, c.groups)
		keys, h := table.Drop(got, names(c.name))
		if e != api.OK || f != api.OK || h != api.OK || !alike(keys, groups) || len(got.Rows) != len(groups.Rows) {
			t.Fatalf("Do(%v) is %v, of the groups %v", c, got, groups)
		}
		kind, _ := aggreg.Kind(c.op, c.kind)
		for _, r := range got.Rows {
			if v := at(got, r, names(c.name))[0]; v.Kind != kind {
				t.Fatalf("Do(%v) has %v, which is not of kind %d", c, v, kind)
			}
		}
	}
}

// column is the values of an answer at a variable.
func column(t api.Table, name string) []api.Value {
	var l []api.Value
	for _, r := range t.Rows {
		l = append(l, at(t, r, names(name))...)
	}
	return l
}

// TestCntAdded: P12.4, Cnt of all groups, added, is how many rows there are.
func TestCntAdded(t *testing.T) {
	s := stream(19)
	for range 10000 {
		c := good(&s, api.Cnt)
		total := int64(0)
		for _, v := range column(must(t, c), c.name) {
			total += v.N
		}
		if total != int64(len(c.t.Rows)) {
			t.Fatalf("Do(%v) counts %d", c, total)
		}
	}
}

// TestSumOfSums: P12.4, Sum of the groups' Sums, of Ints, is the Sum of all.
func TestSumOfSums(t *testing.T) {
	s := stream(23)
	compared := 0
	for range 20000 {
		c := good(&s, api.Sum)
		if c.kind != api.Int {
			continue
		}
		parts, e := c.do()
		if e != api.OK {
			continue
		}
		// Sums that are alike stand in one column but once: so they get a row each by the column ahead of them.
		twice := listed(column(parts, c.name)...)
		all := call{api.Sum, c.t, c.x, nil, "y", api.Int}
		w, f := all.do()
		call{api.Sum, twice, "x", nil, "y", api.Int}.want(t, w, f)
		compared++
	}
	if compared < 1000 {
		t.Errorf("only %d were compared", compared)
	}
}

// TestInOrder: P12.5, Min, Med, Avg and Max stand in their order, and Avg times Cnt is Sum, where they are told.
func TestInOrder(t *testing.T) {
	s := stream(29)
	compared := 0
	for range 20000 {
		c := good(&s, api.Med)
		told := map[int][]api.Value{}
		for _, op := range operations() {
			c.op = op
			if got, e := c.do(); e == api.OK && len(c.t.Rows) > 0 {
				told[op] = byGroups(got, c)
			}
		}
		for i, low := range told[api.Min] {
			for _, op := range []int{api.Med, api.Avg} {
				if told[op] == nil {
					continue
				}
				middle, high := worth(told[op][i]), worth(told[api.Max][i])
				if worth(low).Cmp(middle) > 0 || middle.Cmp(high) > 0 {
					t.Fatalf("%v: Min %v, operation %d %v, Max %v", c, low, op, middle, high)
				}
				compared++
			}
		}
		for i, average := range told[api.Avg] {
			product := new(big.Rat).Mul(worth(average), worth(told[api.Cnt][i]))
			if product.Cmp(worth(told[api.Sum][i])) != 0 {
				t.Fatalf("%v: Avg %v, Cnt %v, Sum %v", c, average, told[api.Cnt][i], told[api.Sum][i])
			}
		}
	}
	if compared < 10000 {
		t.Errorf("only %d were compared", compared)
	}
}

// byGroups is an answer's values at name, in the order of the groups: where name stands ahead of them the rows have another one.
func byGroups(got api.Table, c call) []api.Value {
	ordered := slices.Clone(got.Rows)
	slices.SortFunc(ordered, func(a, b []api.Value) int {
		return value.CompareRow(at(got, a, c.groups), at(got, b, c.groups))
	})
	return column(put(got.Vars, ordered...), c.name)
}
