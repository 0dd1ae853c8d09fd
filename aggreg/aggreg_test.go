package aggreg_test

import (
	"fmt"
	"math"
	"slices"
	"strings"
	"testing"

	"custos/aggreg"
	"custos/api"
)

const most, least = math.MaxInt64, math.MinInt64

func num(n int64) api.Value { return api.Value{Kind: api.Int, N: n} }

func rat(n, d int64) api.Value { return api.Value{Kind: api.Rat, N: n, D: d} }

func str(s string) api.Value { return api.Value{Kind: api.Str, S: s} }

func row(l ...api.Value) []api.Value { return l }

func names(l ...string) []string { return l }

func put(vars []string, rows ...[]api.Value) api.Table { return api.Table{Vars: vars, Rows: rows} }

func nought() api.Table { return api.Table{} }

// letters is a variable for each letter.
func letters(vars string) []string { return slices.Collect(strings.SplitSeq(vars, ""))[:len(vars)] }

// rows is a table of a letter of vars for each variable, as many values in a row as there are of them.
func rows(vars string, l ...api.Value) api.Table {
	t := put(letters(vars))
	for each := range slices.Chunk(l, max(1, len(vars))) {
		t.Rows = append(t.Rows, slices.Clone(each))
	}
	return t
}

// ints is rows of Ints.
func ints(vars string, l ...int64) api.Table {
	var values []api.Value
	for _, n := range l {
		values = append(values, num(n))
	}
	return rows(vars, values...)
}

// listed is a table of k and x, in which the values at x stand in just this order, more than once if need be.
func listed(l ...api.Value) api.Table {
	t := put(names("k", "x"))
	for i, v := range l {
		t.Rows = append(t.Rows, row(num(int64(i)), v))
	}
	return t
}

// three is the chapter's t.
func three() api.Table { return ints("gx", 1, 5, 1, 7, 2, 5) }

func operations() []int { return []int{api.Sum, api.Cnt, api.Min, api.Max, api.Avg, api.Med} }

func kinds() []int { return []int{api.Int, api.Rat, api.Str} }

// alike is whether two tables are the same, without asking the program.
func alike(a, b api.Table) bool {
	return slices.Equal(a.Vars, b.Vars) && slices.EqualFunc(a.Rows, b.Rows, slices.Equal)
}

// call is what Do is asked, told by its fields.
type call struct {
	op     int
	t      api.Table
	x      string
	groups []string
	name   string
	kind   int
}

func (c call) do() (api.Table, api.Errno) {
	return aggreg.Do(c.op, c.t, c.x, c.groups, c.name, c.kind)
}

func (c call) want(t *testing.T, w api.Table, f api.Errno) {
	t.Helper()
	if got, e := c.do(); e != f || !alike(got, w) {
		t.Errorf("Do(%v) is %v, %d, not %v, %d", c, got, e, w, f)
	}
}

// told is what op makes of all rows' values at x, and of what else stands there.
func told(t *testing.T, op, kind int, from api.Table) (api.Value, api.Errno) {
	t.Helper()
	got, e := aggreg.Do(op, from, "x", nil, "y", kind)
	if e != api.OK {
		if !alike(got, nought()) {
			t.Errorf("beside %d there is %v", e, got)
		}
		return api.Value{}, e
	}
	if !slices.Equal(got.Vars, names("y")) || len(got.Rows) != 1 || len(got.Rows[0]) != 1 {
		t.Fatalf("of %v there is %v", from, got)
	}
	return got.Rows[0][0], e
}

// made is what op must make of values at x in this order.
type made struct {
	kind int
	l    []api.Value
	want api.Value
	e    api.Errno
}

func (m made) see(t *testing.T, op int) {
	t.Helper()
	if got, e := told(t, op, m.kind, listed(m.l...)); got != m.want || e != m.e {
		t.Errorf("operation %d of %v is %v, %d, not %v, %d", op, m.l, got, e, m.want, m.e)
	}
}

// TestKind: P12.1, every operation at every kind, and all that are none.
func TestKind(t *testing.T) {
	of := map[[2]int]int{
		{api.Sum, api.Int}: api.Int, {api.Sum, api.Rat}: api.Rat,
		{api.Cnt, api.Int}: api.Int, {api.Cnt, api.Rat}: api.Int, {api.Cnt, api.Str}: api.Int,
		{api.Min, api.Int}: api.Int, {api.Min, api.Rat}: api.Rat, {api.Min, api.Str}: api.Str,
		{api.Max, api.Int}: api.Int, {api.Max, api.Rat}: api.Rat, {api.Max, api.Str}: api.Str,
		{api.Avg, api.Int}: api.Rat, {api.Avg, api.Rat}: api.Rat,
		{api.Med, api.Int}: api.Rat, {api.Med, api.Rat}: api.Rat,
	}
	numbers := []int{math.MinInt, -1 << 32, -6, -1, 0, 1, 2, 3, 4, 5, 6, 7, 8, 255, 256, 257, 258, 1<<32 + 1, math.MaxInt}
	for _, op := range numbers {
		for _, kind := range numbers {
			want, known := of[[2]int{op, kind}]
			e := api.OK
			if !known {
				e = api.ErrKind
			}
			if op < 1 || op > 6 {
				e = api.ErrArg
			}
			if got, f := aggreg.Kind(op, kind); got != want || f != e {
				t.Errorf("Kind(%d, %d) is %d, %d, not %d, %d", op, kind, got, f, want, e)
			}
		}
	}
}

// TestDoExamples: P12.2 and P12.3, the chapter's.
func TestDoExamples(t *testing.T) {
	x, g := names("x"), names("g")
	for _, c := range []struct {
		call
		w api.Table
		e api.Errno
	}{
		{call{api.Sum, three(), "x", g, "s", api.Int}, ints("gs", 1, 12, 2, 5), api.OK},
		{call{api.Cnt, three(), "x", nil, "n", api.Int}, ints("n", 3), api.OK},
		{call{api.Avg, three(), "x", nil, "a", api.Int}, rows("a", rat(17, 3)), api.OK},
		{call{api.Med, three(), "x", g, "m", api.Int}, rows("gm", num(1), rat(6, 1), num(2), rat(5, 1)), api.OK},
		{call{api.Max, three(), "g", x, "g", api.Int}, ints("gx", 1, 7, 2, 5), api.OK},
		{call{api.Sum, put(x), "x", nil, "s", api.Int}, ints("s", 0), api.OK},
		{call{api.Sum, put(x), "x", nil, "s", api.Rat}, rows("s", rat(0, 1)), api.OK},
		{call{api.Cnt, put(x), "x", nil, "s", api.Str}, ints("s", 0), api.OK},
		{call{api.Min, put(x), "x", nil, "s", api.Int}, ints("s"), api.OK},
		{call{api.Sum, three(), "x", g, "g", api.Int}, nought(), api.ErrVars},
		{call{api.Sum, three(), "q", nil, "s", api.Int}, nought(), api.ErrVars},
		{call{api.Sum, three(), "x", names("g", "g"), "s", api.Int}, nought(), api.ErrVars},
		{call{7, three(), "x", nil, "s", api.Int}, nought(), api.ErrArg},
		{call{api.Sum, three(), "x", nil, "s", api.Str}, nought(), api.ErrKind},
		{call{api.Cnt, three(), "x", nil, "n", api.Rat}, nought(), api.ErrKind},
		{call{api.Sum, listed(num(most), num(1), num(-1)), "x", nil, "s", api.Int}, ints("s", most), api.OK},
		{call{api.Sum, ints("x", 1, most), "x", nil, "s", api.Int}, nought(), api.ErrOver},
		{call{api.Avg, ints("x", 1, most), "x", nil, "s", api.Int}, nought(), api.ErrOver},
	} {
		c.want(t, c.w, c.e)
	}
}

// TestDoNoRows: P12.2, each operation at each kind, with groups and without, as the only table and beside other variables.
func TestDoNoRows(t *testing.T) {
	for _, op := range operations() {
		for _, kind := range kinds() {
			if _, e := aggreg.Kind(op, kind); e != api.OK {
				continue
			}
			alone := put(names("y"))
			switch {
			case op == api.Sum && kind == api.Rat:
				alone = rows("y", rat(0, 1))
			case op == api.Sum || op == api.Cnt:
				alone = ints("y", 0)
			}
			for _, none := range [][]string{nil, {}} {
				call{op, ints("x"), "x", none, "y", kind}.want(t, alone, api.OK)
				call{op, ints("gxyz"), "x", none, "y", kind}.want(t, alone, api.OK)
				call{op, api.Table{Vars: names("x"), Rows: [][]api.Value{}}, "x", none, "y", kind}.want(t, alone, api.OK)
			}
			call{op, ints("x"), "x", names("x"), "y", kind}.want(t, ints("xy"), api.OK)
			call{op, ints("gx"), "x", names("g"), "y", kind}.want(t, ints("gy"), api.OK)
			call{op, ints("ghx"), "x", names("x", "h", "g"), "a", kind}.want(t, ints("aghx"), api.OK)
		}
	}
}

// TestDoEmptyGroup: P12.2, without groups and with a row, no operation counts a group of nothing beside it.
func TestDoEmptyGroup(t *testing.T) {
	for _, op := range []int{api.Sum, api.Min, api.Max} {
		call{op, ints("x", 7), "x", nil, "y", api.Int}.want(t, ints("y", 7), api.OK)
		call{op, ints("x", 7), "x", names("x"), "y", api.Int}.want(t, ints("xy", 7, 7), api.OK)
	}
	call{api.Cnt, ints("x", 7), "x", nil, "y", api.Int}.want(t, ints("y", 1), api.OK)
	call{api.Avg, ints("x", 7), "x", nil, "y", api.Int}.want(t, rows("y", rat(7, 1)), api.OK)
	call{api.Med, ints("x", 7), "x", nil, "y", api.Int}.want(t, rows("y", rat(7, 1)), api.OK)
}

// TestDoGroups: P12.2, one group, groups of one row, as many groups as rows, groups by values of all kinds.
func TestDoGroups(t *testing.T) {
	squares := ints("gx", 1, 1, 2, 4, 3, 9, 4, 16)
	alikes := ints("gx", 7, 1, 7, 2, 7, 3, 7, 4)
	mixed := rows("gx", num(1), num(10), num(1), num(20), rat(1, 1), num(30), str(""), num(40), str("1"), num(50), str("1"), num(60))
	g := names("g")
	for _, c := range []struct {
		call
		w api.Table
	}{
		{call{api.Sum, squares, "x", g, "s", api.Int}, ints("gs", 1, 1, 2, 4, 3, 9, 4, 16)},
		{call{api.Cnt, squares, "x", g, "s", api.Int}, ints("gs", 1, 1, 2, 1, 3, 1, 4, 1)},
		{call{api.Max, squares, "x", names("x"), "s", api.Int}, ints("sx", 1, 1, 4, 4, 9, 9, 16, 16)},
		{call{api.Cnt, squares, "x", names("g", "x"), "s", api.Int}, ints("gsx", 1, 1, 1, 2, 1, 4, 3, 1, 9, 4, 1, 16)},
		{call{api.Med, squares, "x", nil, "s", api.Int}, rows("s", rat(13, 2))},
		{call{api.Sum, alikes, "x", g, "s", api.Int}, ints("gs", 7, 10)},
		{call{api.Avg, alikes, "x", g, "s", api.Int}, rows("gs", num(7), rat(5, 2))},
		{call{api.Cnt, alikes, "g", nil, "s", api.Int}, ints("s", 4)},
		{call{api.Sum, alikes, "g", names("x"), "s", api.Int}, ints("sx", 7, 1, 7, 2, 7, 3, 7, 4)},
		{call{api.Sum, mixed, "x", g, "s", api.Int}, rows("gs", num(1), num(30), rat(1, 1), num(30), str(""), num(40), str("1"), num(110))},
		{call{api.Cnt, mixed, "x", g, "s", api.Int}, rows("gs", num(1), num(2), rat(1, 1), num(1), str(""), num(1), str("1"), num(2))},
	} {
		c.want(t, c.w, api.OK)
	}
}

// TestDoLeavesOut: P12.2, groups that leave some variables out, and none; values that stand there more than once count so.
func TestDoLeavesOut(t *testing.T) {
	from := ints("abx", 1, 1, 5, 1, 1, 6, 1, 2, 5, 2, 1, 5)
	for _, c := range []struct {
		groups []string
		sum    api.Table
		count  api.Table
	}{
		{nil, ints("y", 21), ints("y", 4)},
		{names("a"), ints("ay", 1, 16, 2, 5), ints("ay", 1, 3, 2, 1)},
		{names("b"), ints("by", 1, 16, 2, 5), ints("by", 1, 3, 2, 1)},
		{names("x"), ints("xy", 5, 15, 6, 6), ints("xy", 5, 3, 6, 1)},
		{names("a", "b"), ints("aby", 1, 1, 11, 1, 2, 5, 2, 1, 5), ints("aby", 1, 1, 2, 1, 2, 1, 2, 1, 1)},
		{names("a", "x"), ints("axy", 1, 5, 10, 1, 6, 6, 2, 5, 5), ints("axy", 1, 5, 2, 1, 6, 1, 2, 5, 1)},
		{names("a", "b", "x"), ints("abxy", 1, 1, 5, 5, 1, 1, 6, 6, 1, 2, 5, 5, 2, 1, 5, 5), ints("abxy", 1, 1, 5, 1, 1, 1, 6, 1, 1, 2, 5, 1, 2, 1, 5, 1)},
	} {
		call{api.Sum, from, "x", c.groups, "y", api.Int}.want(t, c.sum, api.OK)
		call{api.Cnt, from, "x", c.groups, "y", api.Int}.want(t, c.count, api.OK)
	}
}

// TestDoGroupsOrder: P12.2, groups in whatever order they are handed in; the answer's variables and rows rise.
func TestDoGroupsOrder(t *testing.T) {
	from := ints("acex", 1, 2, 3, 10, 1, 2, 4, 1, 1, 3, 3, 5, 2, 1, 3, 0, 2, 1, 3, 9)
	ends := []struct {
		name string
		w    api.Table
	}{
		{"b", ints("abce", 1, 1, 2, 4, 1, 5, 3, 3, 1, 10, 2, 3, 2, 9, 1, 3)},
		{"A", ints("Aace", 1, 1, 2, 4, 5, 1, 3, 3, 9, 2, 1, 3, 10, 1, 2, 3)},
		{"d", ints("acde", 1, 2, 1, 4, 1, 2, 10, 3, 1, 3, 5, 3, 2, 1, 9, 3)},
		{"x", ints("acex", 1, 2, 3, 10, 1, 2, 4, 1, 1, 3, 3, 5, 2, 1, 3, 9)},
		{"z", ints("acez", 1, 2, 3, 10, 1, 2, 4, 1, 1, 3, 3, 5, 2, 1, 3, 9)},
	}
	for _, order := range []string{"ace", "aec", "cae", "cea", "eac", "eca"} {
		for _, c := range ends {
			call{api.Sum, from, "x", letters(order), c.name, api.Int}.want(t, c.w, api.OK)
			call{api.Max, from, "x", letters(order), c.name, api.Int}.want(t, c.w, api.OK)
		}
	}
}

// TestDoName: P12.2, name is x, or another variable that is none of groups, or any text.
func TestDoName(t *testing.T) {
	long := strings.Repeat("n", 1000)
	for _, c := range []struct {
		call
		w api.Table
	}{
		{call{api.Sum, three(), "x", nil, "x", api.Int}, ints("x", 17)},
		{call{api.Sum, three(), "x", names("g"), "x", api.Int}, ints("gx", 1, 12, 2, 5)},
		{call{api.Sum, three(), "x", nil, "g", api.Int}, ints("g", 17)},
		{call{api.Sum, three(), "g", names("x"), "g", api.Int}, ints("gx", 1, 7, 3, 5)},
		{call{api.Cnt, three(), "x", names("x"), "g", api.Int}, ints("gx", 1, 7, 2, 5)},
		{call{api.Sum, three(), "g", nil, "x", api.Int}, ints("x", 4)},
		{call{api.Cnt, ints("abx", 1, 1, 5, 1, 2, 5, 2, 3, 5), "x", names("a"), "b", api.Int}, ints("ab", 1, 2, 2, 1)},
		{call{api.Cnt, ints("abx", 1, 1, 5, 1, 2, 5, 2, 3, 5), "x", names("x"), "b", api.Int}, ints("bx", 3, 5)},
		{call{api.Cnt, three(), "x", nil, "", api.Int}, put(names(""), row(num(3)))},
		{call{api.Cnt, three(), "x", names("g"), "", api.Int}, put(names("", "g"), row(num(1), num(2)), row(num(2), num(1)))},
		{call{api.Cnt, three(), "x", names("g"), "\xff", api.Int}, put(names("g", "\xff"), row(num(1), num(2)), row(num(2), num(1)))},
		{call{api.Cnt, three(), "x", names("g"), "not", api.Int}, put(names("g", "not"), row(num(1), num(2)), row(num(2), num(1)))},
		{call{api.Cnt, three(), "x", names("g"), long, api.Int}, put(names("g", long), row(num(1), num(2)), row(num(2), num(1)))},
		{call{api.Max, put(names("", "\x00"), row(num(1), num(2)), row(num(1), num(3))), "\x00", names(""), "\x00", api.Int}, put(names("", "\x00"), row(num(1), num(3)))},
	} {
		c.want(t, c.w, api.OK)
	}
}

// TestDoManyGroups: P12.2, seven groups are taken, eight are not, whatever name is.
func TestDoManyGroups(t *testing.T) {
	all := letters("abcdefgx")
	for _, from := range []api.Table{ints("abcdefgx"), ints("abcdefgx", 1, 2, 3, 4, 5, 6, 7, 8, 1, 2, 3, 4, 5, 6, 7, 9)} {
		seven := ints("abcdefgn")
		last := ints("bcdefgnx")
		if len(from.Rows) > 0 {
			seven = ints("abcdefgn", 1, 2, 3, 4, 5, 6, 7, 2)
			last = ints("bcdefgnx", 2, 3, 4, 5, 6, 7, 1, 8, 2, 3, 4, 5, 6, 7, 1, 9)
		}
		call{api.Cnt, from, "x", all[:7], "n", api.Int}.want(t, seven, api.OK)
		call{api.Cnt, from, "x", all[1:], "n", api.Int}.want(t, last, api.OK)
		back := slices.Clone(all[:7])
		slices.Reverse(back)
		call{api.Cnt, from, "x", back, "n", api.Int}.want(t, seven, api.OK)
		for _, name := range []string{"n", "x", "", "a"} {
			call{api.Cnt, from, "x", all, name, api.Int}.want(t, nought(), api.ErrVars)
			call{api.Cnt, from, "x", append(slices.Clone(all), "n"), name, api.Int}.want(t, nought(), api.ErrVars)
			call{api.Cnt, from, "x", slices.Repeat(all, 1000), name, api.Int}.want(t, nought(), api.ErrVars)
		}
	}
}

// TestSumInts: P12.3, only where the sum ends counts, wherever it has been.
func TestSumInts(t *testing.T) {
	for _, c := range []made{
		{api.Int, row(num(0)), num(0), api.OK},
		{api.Int, row(num(-5), num(3)), num(-2), api.OK},
		{api.Int, row(num(most)), num(most), api.OK},
		{api.Int, row(num(least)), num(least), api.OK},
		{api.Int, row(num(most), num(0)), num(most), api.OK},
		{api.Int, row(num(most-1), num(1)), num(most), api.OK},
		{api.Int, row(num(least+1), num(-1)), num(least), api.OK},
		{api.Int, row(num(most), num(1), num(-1)), num(most), api.OK},
		{api.Int, row(num(least), num(-1), num(1)), num(least), api.OK},
		{api.Int, row(num(most), num(most), num(least), num(least)), num(-2), api.OK},
		{api.Int, row(num(least), num(least), num(most), num(most), num(2)), num(0), api.OK},
		{api.Int, row(num(most), num(most), num(most), num(least), num(least)), num(most - 2), api.OK},
		{api.Int, row(num(least), num(most)), num(-1), api.OK},
		{api.Int, slices.Concat(slices.Repeat(row(num(most)), 1000), slices.Repeat(row(num(least)), 1000)), num(-1000), api.OK},
		{api.Int, slices.Concat(slices.Repeat(row(num(least)), 1000), slices.Repeat(row(num(most)), 1001)), num(most - 1000), api.OK},
		{api.Int, slices.Repeat(row(num(1<<62), num(-1<<62)), 7), num(0), api.OK},
		{api.Int, row(num(1<<62), num(1<<62)), api.Value{}, api.ErrOver},
		{api.Int, row(num(-1<<62), num(-1<<62)), num(least), api.OK},
		{api.Int, row(num(-1<<62), num(-1<<62), num(-1)), api.Value{}, api.ErrOver},
		{api.Int, row(num(most), num(1)), api.Value{}, api.ErrOver},
		{api.Int, row(num(1), num(most)), api.Value{}, api.ErrOver},
		{api.Int, row(num(least), num(-1)), api.Value{}, api.ErrOver},
		{api.Int, row(num(most), num(most)), api.Value{}, api.ErrOver},
		{api.Int, row(num(least), num(least)), api.Value{}, api.ErrOver},
		{api.Int, row(num(most), num(most), num(2)), api.Value{}, api.ErrOver},
		{api.Int, row(num(least), num(least), num(5)), api.Value{}, api.ErrOver},
		{api.Int, row(num(1<<62), num(1<<62), num(1<<62), num(1<<62)), api.Value{}, api.ErrOver},
		{api.Int, slices.Repeat(row(num(most)), 1000), api.Value{}, api.ErrOver},
		{api.Int, slices.Repeat(row(num(least)), 1024), api.Value{}, api.ErrOver},
	} {
		c.see(t, api.Sum)
	}
}

// TestSumRats: P12.3, one by one in the order of the rows, over where one addition is, also if the sum of all is not.
func TestSumRats(t *testing.T) {
	for _, c := range []made{
		{api.Rat, row(rat(0, 1)), rat(0, 1), api.OK},
		{api.Rat, row(rat(1, 2), rat(1, 3)), rat(5, 6), api.OK},
		{api.Rat, row(rat(1, 2), rat(1, 2)), rat(1, 1), api.OK},
		{api.Rat, row(rat(1, 2), rat(-1, 2)), rat(0, 1), api.OK},
		{api.Rat, row(rat(most, 1)), rat(most, 1), api.OK},
		{api.Rat, row(rat(least, most)), rat(least, most), api.OK},
		{api.Rat, row(rat(1, most)), rat(1, most), api.OK},
		{api.Rat, row(rat(most, 1), rat(-1, 1), rat(1, 1)), rat(most, 1), api.OK},
		{api.Rat, row(rat(most, 1), rat(1, 1), rat(-1, 1)), api.Value{}, api.ErrOver},
		{api.Rat, row(rat(1, 1), rat(most, 1), rat(-1, 1)), api.Value{}, api.ErrOver},
		{api.Rat, row(rat(1, 1), rat(-1, 1), rat(most, 1)), rat(most, 1), api.OK},
		{api.Rat, row(rat(-1, 1), rat(most, 1), rat(1, 1)), rat(most, 1), api.OK},
		{api.Rat, row(rat(least, 1), rat(1, 1), rat(-1, 1)), rat(least, 1), api.OK},
		{api.Rat, row(rat(least, 1), rat(-1, 1), rat(1, 1)), api.Value{}, api.ErrOver},
		{api.Rat, row(rat(most, 2), rat(most, 2)), rat(most, 1), api.OK},
		{api.Rat, row(rat(most, 2), rat(most, 2), rat(most, 2)), api.Value{}, api.ErrOver},
		{api.Rat, row(rat(1, most), rat(1, most-1)), api.Value{}, api.ErrOver},
		{api.Rat, row(rat(1, most), rat(-1, most), rat(1, most-1)), rat(1, most-1), api.OK},
		{api.Rat, row(rat(1, most), rat(1, most-1), rat(-1, most)), api.Value{}, api.ErrOver},
		{api.Rat, row(rat(1, 3), rat(1, 2), rat(1, 6), rat(-1, 1)), rat(0, 1), api.OK},
	} {
		c.see(t, api.Sum)
		if c.e == api.ErrOver {
			c.see(t, api.Avg)
		}
	}
}

// TestSumRatsByRows: P12.3, the order of the rows is the table's, not that of the values, nor that of the groups' names.
func TestSumRatsByRows(t *testing.T) {
	good := rows("ax", num(1), rat(-1, 1), num(2), rat(most, 1), num(3), rat(1, 1))
	call{api.Sum, good, "x", nil, "y", api.Rat}.want(t, rows("y", rat(most, 1)), api.OK)
	bad := rows("ax", num(1), rat(1, 1), num(2), rat(most, 1), num(3), rat(-1, 1))
	call{api.Sum, bad, "x", nil, "y", api.Rat}.want(t, nought(), api.ErrOver)
	first := rows("xz", rat(-1, 1), num(3), rat(1, 1), num(2), rat(most, 1), num(1))
	call{api.Sum, first, "x", nil, "y", api.Rat}.want(t, rows("y", rat(most, 1)), api.OK)
	falling := rows("xz", rat(least, 1), num(3), rat(-1, 1), num(2), rat(1, 1), num(1))
	call{api.Sum, falling, "x", nil, "y", api.Rat}.want(t, nought(), api.ErrOver)
	parted := rows("agx", num(1), num(2), rat(most, 1), num(2), num(1), rat(1, 1), num(3), num(2), rat(-1, 1), num(4), num(1), rat(1, 1))
	call{api.Sum, parted, "x", names("g"), "y", api.Rat}.want(t, rows("gy", num(1), rat(2, 1), num(2), rat(most-1, 1)), api.OK)
	call{api.Sum, parted, "x", nil, "y", api.Rat}.want(t, nought(), api.ErrOver)
}

// TestCnt: P12.3, one for each row, also of values that stand there more than once, of every kind.
func TestCnt(t *testing.T) {
	for _, v := range row(num(5), num(least), rat(1, 2), str(""), str("a")) {
		for _, n := range []int{1, 2, 3, 10, 1000} {
			made{v.Kind, slices.Repeat(row(v), n), num(int64(n)), api.OK}.see(t, api.Cnt)
		}
	}
	made{api.Int, row(num(1), num(2), num(1), num(2), num(1)), num(5), api.OK}.see(t, api.Cnt)
	made{api.Int, row(num(most), num(most)), num(2), api.OK}.see(t, api.Cnt)
	made{api.Rat, row(rat(most, 1), rat(most, 1)), num(2), api.OK}.see(t, api.Cnt)
}

// TestMinMax: P12.3, by the order of values of each kind, wherever they stand.
func TestMinMax(t *testing.T) {
	for _, c := range []struct {
		l         []api.Value
		low, high api.Value
	}{
		{row(num(5)), num(5), num(5)},
		{row(num(5), num(-7), num(3)), num(-7), num(5)},
		{row(num(3), num(10), num(9)), num(3), num(10)},
		{row(num(0), num(least), num(most), num(1)), num(least), num(most)},
		{row(num(2), num(2), num(1), num(2), num(1)), num(1), num(2)},
		{row(num(1<<53+1), num(1<<53)), num(1 << 53), num(1<<53 + 1)},
		{row(rat(1, 2)), rat(1, 2), rat(1, 2)},
		{row(rat(1, 2), rat(2, 3), rat(1, 3)), rat(1, 3), rat(2, 3)},
		{row(rat(5, 1), rat(-1, 9), rat(-1, 2), rat(9, 2)), rat(-1, 2), rat(5, 1)},
		{row(rat(most-1, most), rat(most-2, most-1)), rat(most-2, most-1), rat(most-1, most)},
		{row(rat(most, 1), rat(least, 1), rat(0, 1)), rat(least, 1), rat(most, 1)},
		{row(str("")), str(""), str("")},
		{row(str("b"), str("ab"), str("a")), str("a"), str("b")},
		{row(str("10"), str("9"), str("")), str(""), str("9")},
		{row(str("a\x00"), str("\xff"), str("a"), str("Z")), str("Z"), str("\xff")},
	} {
		made{c.l[0].Kind, c.l, c.low, api.OK}.see(t, api.Min)
		made{c.l[0].Kind, c.l, c.high, api.OK}.see(t, api.Max)
	}
}

// TestAvg: P12.3, Sum with its errors, as a Rat, divided by how many there are.
func TestAvg(t *testing.T) {
	for _, c := range []made{
		{api.Int, row(num(5)), rat(5, 1), api.OK},
		{api.Int, row(num(0)), rat(0, 1), api.OK},
		{api.Int, row(num(5), num(5), num(7)), rat(17, 3), api.OK},
		{api.Int, row(num(5), num(7)), rat(6, 1), api.OK},
		{api.Int, row(num(-5), num(-6)), rat(-11, 2), api.OK},
		{api.Int, row(num(3), num(-3)), rat(0, 1), api.OK},
		{api.Int, row(num(1), num(1), num(1), num(1), num(1), num(0)), rat(5, 6), api.OK},
		{api.Int, row(num(most)), rat(most, 1), api.OK},
		{api.Int, row(num(least)), rat(least, 1), api.OK},
		{api.Int, row(num(least), num(0)), rat(least/2, 1), api.OK},
		{api.Int, row(num(most), num(0)), rat(most, 2), api.OK},
		{api.Int, row(num(most), num(1), num(-1)), rat(most, 3), api.OK},
		{api.Int, row(num(most), num(1), num(-1), num(2), num(-2), num(3), num(-3)), rat(most/7, 1), api.OK},
		{api.Int, row(num(most), num(most), num(least), num(least)), rat(-1, 2), api.OK},
		{api.Int, row(num(most), num(1)), api.Value{}, api.ErrOver},
		{api.Int, row(num(most), num(most)), api.Value{}, api.ErrOver},
		{api.Int, row(num(least), num(-1)), api.Value{}, api.ErrOver},
		{api.Rat, row(rat(1, 2)), rat(1, 2), api.OK},
		{api.Rat, row(rat(1, 2), rat(1, 3)), rat(5, 12), api.OK},
		{api.Rat, row(rat(1, 2), rat(1, 2), rat(1, 2)), rat(1, 2), api.OK},
		{api.Rat, row(rat(1, 2), rat(-1, 2)), rat(0, 1), api.OK},
		{api.Rat, row(rat(1, most)), rat(1, most), api.OK},
		{api.Rat, row(rat(1, most), rat(1, most)), rat(1, most), api.OK},
		{api.Rat, row(rat(1, most), rat(2, most)), api.Value{}, api.ErrOver},
		{api.Rat, row(rat(1, 1<<62), rat(0, 1)), api.Value{}, api.ErrOver},
		{api.Rat, row(rat(1, 1<<61), rat(0, 1)), rat(1, 1<<62), api.OK},
		{api.Rat, row(rat(most, 1), rat(1, 1)), api.Value{}, api.ErrOver},
		{api.Rat, row(rat(most, 1), rat(1, 1), rat(-1, 1)), api.Value{}, api.ErrOver},
		{api.Rat, row(rat(most, 2), rat(most, 2)), rat(most, 2), api.OK},
	} {
		c.see(t, api.Avg)
	}
}

// TestMed: P12.3, the middle one, or half of the two in the middle, of values in their order, each as often as it stands there.
func TestMed(t *testing.T) {
	for _, c := range []made{
		{api.Int, row(num(5)), rat(5, 1), api.OK},
		{api.Int, row(num(9), num(1), num(5)), rat(5, 1), api.OK},
		{api.Int, row(num(10), num(9), num(1)), rat(9, 1), api.OK},
		{api.Int, row(num(5), num(8)), rat(13, 2), api.OK},
		{api.Int, row(num(8), num(6)), rat(7, 1), api.OK},
		{api.Int, row(num(4), num(100), num(1), num(3)), rat(7, 2), api.OK},
		{api.Int, row(num(1), num(1), num(9)), rat(1, 1), api.OK},
		{api.Int, row(num(9), num(1), num(9)), rat(9, 1), api.OK},
		{api.Int, row(num(1), num(9), num(1), num(1)), rat(1, 1), api.OK},
		{api.Int, row(num(9), num(1), num(1), num(9)), rat(5, 1), api.OK},
		{api.Int, row(num(7), num(7)), rat(7, 1), api.OK},
		{api.Int, row(num(-3), num(3)), rat(0, 1), api.OK},
		{api.Int, row(num(-3), num(-4)), rat(-7, 2), api.OK},
		{api.Int, row(num(most)), rat(most, 1), api.OK},
		{api.Int, row(num(most), num(most), num(most)), rat(most, 1), api.OK},
		{api.Int, row(num(least), num(least), num(0)), rat(least, 1), api.OK},
		{api.Int, row(num(least), num(most)), rat(-1, 2), api.OK},
		{api.Int, row(num(most-1), num(1)), rat(most, 2), api.OK},
		{api.Int, row(num(least), num(0)), rat(least/2, 1), api.OK},
		{api.Int, row(num(most), num(1)), api.Value{}, api.ErrOver},
		{api.Int, row(num(most), num(most)), api.Value{}, api.ErrOver},
		{api.Int, row(num(least), num(-1)), api.Value{}, api.ErrOver},
		{api.Int, row(num(most), num(most), num(1), num(2)), api.Value{}, api.ErrOver},
		{api.Int, row(num(most), num(most), num(1), num(2), num(3)), rat(3, 1), api.OK},
		{api.Int, row(num(most), num(1), num(least), num(2)), rat(3, 2), api.OK},
		{api.Rat, row(rat(1, 2)), rat(1, 2), api.OK},
		{api.Rat, row(rat(2, 3), rat(1, 2), rat(1, 3)), rat(1, 2), api.OK},
		{api.Rat, row(rat(9, 2), rat(5, 1), rat(41, 10)), rat(9, 2), api.OK},
		{api.Rat, row(rat(1, 2), rat(1, 3)), rat(5, 12), api.OK},
		{api.Rat, row(rat(1, 2), rat(1, 2)), rat(1, 2), api.OK},
		{api.Rat, row(rat(5, 1), rat(-5, 1), rat(1, 3), rat(2, 3)), rat(1, 2), api.OK},
		{api.Rat, row(rat(1, most), rat(1, most)), rat(1, most), api.OK},
		{api.Rat, row(rat(1, most), rat(2, most)), api.Value{}, api.ErrOver},
		{api.Rat, row(rat(1, most), rat(2, most), rat(3, most)), rat(2, most), api.OK},
		{api.Rat, row(rat(1, most), rat(1, most-1)), api.Value{}, api.ErrOver},
		{api.Rat, row(rat(1, 1<<62), rat(0, 1)), api.Value{}, api.ErrOver},
		{api.Rat, row(rat(most, 1), rat(1, 1)), api.Value{}, api.ErrOver},
		{api.Rat, row(rat(most, 1), rat(1, 1), rat(least, 1), rat(0, 1)), rat(1, 2), api.OK},
		{api.Rat, row(rat(most, 2), rat(most, 2)), rat(most, 2), api.OK},
	} {
		c.see(t, api.Med)
	}
}

// TestOverOfOneGroup: P12.3, over, if it is told of one group, whichever it is; nothing is told of the others.
func TestOverOfOneGroup(t *testing.T) {
	for at := range int64(20) {
		from := put(names("g", "k", "x"))
		for g := range int64(20) {
			for k := range int64(2) {
				x := k
				if g == at {
					x = most
				}
				from.Rows = append(from.Rows, row(num(g), num(k), num(x)))
			}
		}
		for _, op := range []int{api.Sum, api.Avg, api.Med} {
			call{op, from, "x", names("g"), "y", api.Int}.want(t, nought(), api.ErrOver)
			call{op, from, "x", names("g", "k"), "y", api.Int}.want(t, func() api.Table {
				got := put(names("g", "k", "y"))
				for _, r := range from.Rows {
					v := r[2]
					if op != api.Sum {
						v = rat(v.N, 1)
					}
					got.Rows = append(got.Rows, row(r[0], r[1], v))
				}
				return got
			}(), api.OK)
		}
	}
}

// TestDoVars: P12.2, x or a group that is no variable, a group that stands there twice or is name.
func TestDoVars(t *testing.T) {
	from := ints("abcx", 1, 2, 3, 4)
	for _, op := range operations() {
		for _, c := range []struct {
			x      string
			groups []string
			name   string
		}{
			{"y", nil, "n"}, {"", nil, "n"}, {"X", nil, "n"}, {"xx", nil, "n"}, {"n", nil, "n"}, {"y", names("a"), "n"}, {"y", names("y"), "n"},
			{"x", names("y"), "n"}, {"x", names(""), "n"}, {"x", names("A"), "n"}, {"x", names("a", "y"), "n"}, {"x", names("y", "a"), "n"}, {"x", names("a", "y", "b"), "n"}, {"x", names("n"), "n"},
			{"x", names("a", "a"), "n"}, {"x", names("a", "b", "a"), "n"}, {"x", names("b", "a", "a"), "n"}, {"x", names("x", "x"), "n"}, {"x", names("y", "y"), "n"},
			{"x", names("a"), "a"}, {"x", names("a", "b"), "a"}, {"x", names("a", "b"), "b"}, {"x", names("x"), "x"}, {"a", names("b", "x", "c"), "c"},
		} {
			call{op, from, c.x, c.groups, c.name, api.Int}.want(t, nought(), api.ErrVars)
			call{op, put(from.Vars), c.x, c.groups, c.name, api.Int}.want(t, nought(), api.ErrVars)
		}
		call{op, put(nil), "x", nil, "n", api.Int}.want(t, nought(), api.ErrVars)
		call{op, put(nil, row()), "", nil, "", api.Int}.want(t, nought(), api.ErrVars)
	}
}

// TestDoKind: P12.2, a row whose value at x is of another kind, wherever it stands; at other variables it may be.
func TestDoKind(t *testing.T) {
	of := map[int][]api.Value{api.Int: row(num(1), num(2)), api.Rat: row(rat(1, 1), rat(2, 1)), api.Str: row(str("1"), str("2"))}
	for _, kind := range kinds() {
		for _, op := range operations() {
			if _, e := aggreg.Kind(op, kind); e != api.OK {
				continue
			}
			for _, other := range kinds() {
				if other == kind {
					continue
				}
				good, bad := of[kind], of[other][0]
				for _, groups := range [][]string{nil, names("k"), names("x")} {
					for _, from := range []api.Table{listed(bad), listed(bad, good[0]), listed(good[0], bad), listed(good[0], bad, good[1])} {
						call{op, from, "x", groups, "y", kind}.want(t, nought(), api.ErrKind)
					}
				}
				beside := put(names("a", "x"), row(bad, good[0]))
				if got, e := aggreg.Do(op, beside, "x", nil, "y", kind); e != api.OK || len(got.Rows) != 1 {
					t.Errorf("beside another kind: %v, %d", got, e)
				}
			}
		}
	}
}

// TestDoTable: P12.2, a table that may not be, by the first of its errors.
func TestDoTable(t *testing.T) {
	long, kind := str(strings.Repeat("x", 65)), api.Value{Kind: 4}
	for _, c := range []struct {
		t api.Table
		e api.Errno
	}{
		{ints("yx"), api.ErrVars}, {ints("xx"), api.ErrVars}, {ints("abcdefghx"), api.ErrVars}, {put(names("y", "x"), row(kind)), api.ErrVars},
		{put(names("x"), row()), api.ErrArg}, {put(names("x"), nil), api.ErrArg}, {ints("x", 2, 1), api.ErrArg}, {ints("x", 1, 1), api.ErrArg}, {put(names("x"), row(num(1)), row(num(2), num(3))), api.ErrArg}, {put(nil, row(), row()), api.ErrArg},
		{rows("x", api.Value{}), api.ErrKind}, {rows("x", kind), api.ErrKind}, {rows("x", rat(2, 4)), api.ErrKind}, {rows("ax", rat(1, 0), num(1)), api.ErrKind}, {rows("x", api.Value{Kind: api.Int, D: 1}), api.ErrKind},
		{rows("x", long), api.ErrLong}, {rows("ax", long, num(1)), api.ErrLong}, {rows("ax", long, kind), api.ErrLong}, {rows("ax", num(1), num(1), num(2), long), api.ErrLong},
	} {
		for _, op := range operations() {
			call{op, c.t, "x", nil, "n", api.Int}.want(t, nought(), c.e)
		}
	}
}

// TestErrorsOrder: P12.2, of several errors the first one is told: those of Kind, of the table, of the variables, of the values, of what is made.
func TestErrorsOrder(t *testing.T) {
	over := put(names("g", "x"), row(num(1), num(1)), row(num(1), num(most)), row(num(2), str("a")))
	long := put(names("g", "x"), row(num(1), num(1)), row(num(1), num(most)), row(num(2), str(strings.Repeat("a", 65))))
	short := put(names("g", "x"), row(num(1), num(1)), row(num(2)))
	wide := rows("abcdefgx", slices.Repeat(row(str("a")), 8)...)
	g, bad := names("g"), names("g", "g")
	for _, c := range []struct {
		call
		e api.Errno
	}{
		{call{0, short, "q", bad, "g", 9}, api.ErrArg},
		{call{0, long, "q", bad, "g", 9}, api.ErrArg},
		{call{7, over, "x", g, "y", api.Str}, api.ErrArg},
		{call{-1, over, "x", g, "y", api.NoKind}, api.ErrArg},
		{call{api.Sum, long, "q", bad, "g", api.Str}, api.ErrKind},
		{call{api.Sum, short, "q", bad, "g", api.Str}, api.ErrKind},
		{call{api.Avg, short, "x", g, "y", api.Str}, api.ErrKind},
		{call{api.Med, long, "x", g, "y", api.Str}, api.ErrKind},
		{call{api.Cnt, short, "x", g, "y", api.NoKind}, api.ErrKind},
		{call{api.Min, long, "x", g, "y", 4}, api.ErrKind},
		{call{api.Max, over, "q", g, "g", -1}, api.ErrKind},
		{call{api.Sum, long, "q", bad, "g", api.Int}, api.ErrLong},
		{call{api.Sum, short, "q", bad, "g", api.Int}, api.ErrArg},
		{call{api.Cnt, short, "x", g, "g", api.Rat}, api.ErrArg},
		{call{api.Sum, long, "x", g, "y", api.Int}, api.ErrLong},
		{call{api.Sum, over, "q", g, "y", api.Int}, api.ErrVars},
		{call{api.Sum, over, "x", bad, "y", api.Int}, api.ErrVars},
		{call{api.Sum, over, "x", names("q"), "y", api.Int}, api.ErrVars},
		{call{api.Sum, over, "x", g, "g", api.Int}, api.ErrVars},
		{call{api.Cnt, over, "x", g, "g", api.Rat}, api.ErrVars},
		{call{api.Cnt, wide, "x", wide.Vars, "y", api.Int}, api.ErrVars},
		{call{api.Sum, over, "x", g, "y", api.Int}, api.ErrKind},
		{call{api.Avg, over, "x", g, "y", api.Int}, api.ErrKind},
		{call{api.Med, over, "x", g, "y", api.Int}, api.ErrKind},
		{call{api.Sum, over, "x", nil, "y", api.Int}, api.ErrKind},
		{call{api.Sum, put(over.Vars, over.Rows[:2]...), "x", g, "y", api.Int}, api.ErrOver},
	} {
		for range 10 {
			c.want(t, nought(), c.e)
		}
	}
}

// roomy is a call whose lists have room behind them, and all of what stands in them and in that room.
func roomy(c call) (call, func() string) {
	vars := append(slices.Clone(c.t.Vars), "behind", "too")
	from := append(slices.Clone(c.t.Rows), nil, row(num(99)))
	groups := append(slices.Clone(c.groups), "behind", "too")
	var kept [][]api.Value
	for i, r := range c.t.Rows {
		all := append(slices.Clone(r), num(98), num(97))
		kept = append(kept, all)
		from[i] = all[:len(r)]
	}
	whole := func() string { return fmt.Sprint(vars, from, groups, kept) }
	c.t = api.Table{Vars: vars[:len(c.t.Vars)], Rows: from[:len(c.t.Rows)]}
	c.groups = groups[:len(c.groups)]
	return c, whole
}

// alone writes into each list of an answer, and into the room behind it, and sees whether that shows in another one.
func alone(t *testing.T, x api.Table) {
	t.Helper()
	all := x.Rows[:cap(x.Rows)]
	for i := range len(x.Rows) {
		for k := range all[i][:cap(all[i])] {
			all[i][:cap(all[i])][k] = api.Value{Kind: i, N: int64(k)}
		}
	}
	for i := range len(x.Rows) {
		for k, v := range all[i][:cap(all[i])] {
			if v != (api.Value{Kind: i, N: int64(k)}) {
				t.Error("two rows share room")
			}
		}
	}
	clear(all)
	vars := x.Vars[:cap(x.Vars)]
	for i := range vars {
		vars[i] = "written"
	}
}

// TestMemory: rule R4, what is handed in stays as it is, and what is answered is new.
func TestMemory(t *testing.T) {
	s := stream(11)
	for range 2000 {
		c, whole := roomy(s.call())
		before := whole()
		got, e := c.do()
		again, f := c.do()
		alone(t, got)
		if e != f || e == api.OK && !alike(again, must(t, c)) {
			t.Errorf("what was written into an answer of %v shows in the next one", c)
		}
		alone(t, again)
		if whole() != before {
			t.Fatalf("%v was changed", c)
		}
	}
}

// TestOneAnswer: rule R5, the same again of the same, in whatever order the groups are gone through.
func TestOneAnswer(t *testing.T) {
	s := stream(13)
	for range 500 {
		c := s.call()
		w, f := c.do()
		for range 5 {
			c.want(t, w, f)
		}
	}
}

// TestGreat: rule R6, each operation of 2^16 rows, in one group, in many, and in as many as there are rows.
func TestGreat(t *testing.T) {
	const n = 1 << 16
	from := put(names("a", "b", "x"))
	for i := range int64(n) {
		from.Rows = append(from.Rows, row(num(i), num(i%256), rat(n-i, 1)))
	}
	for _, op := range operations() {
		for _, c := range []struct {
			groups []string
			count  int
		}{{nil, 1}, {names("b"), 256}, {names("a"), n}, {names("a", "b", "x"), n}} {
			got, e := aggreg.Do(op, from, "x", c.groups, "y", api.Rat)
			if e != api.OK || len(got.Rows) != c.count {
				t.Errorf("operation %d by %v: %d rows, %d", op, c.groups, len(got.Rows), e)
			}
		}
	}
	call{api.Sum, from, "x", nil, "y", api.Rat}.want(t, rows("y", rat(n*(n+1)/2, 1)), api.OK)
	call{api.Avg, from, "x", nil, "y", api.Rat}.want(t, rows("y", rat(n+1, 2)), api.OK)
	call{api.Med, from, "x", nil, "y", api.Rat}.want(t, rows("y", rat(n+1, 2)), api.OK)
	call{api.Cnt, from, "x", nil, "y", api.Rat}.want(t, rows("y", num(n)), api.OK)
}
