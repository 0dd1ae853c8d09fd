package engine_test

import (
	"slices"
	"strconv"
	"strings"
	"testing"

	"custos/api"
	"custos/engine"
	"custos/static"
	"custos/syntax"
	"custos/table"
	"custos/trace"
	"custos/typing"
	"custos/value"
)

// signature is that of the tests whose formulas are told as text.
func signature(t *testing.T) []api.Decl {
	t.Helper()
	sig, w := trace.ParseSignature("p int\nq int str\nr\nf rat\ne int int\no")
	if w.E != api.OK {
		t.Fatal(w)
	}
	return sig
}

func formula(t *testing.T, text string) api.Formula {
	t.Helper()
	f, e, at := syntax.Parse(text)
	if e != api.OK {
		t.Fatal(text, e, at)
	}
	return f
}

func textOf(f api.Formula) string {
	s, e := syntax.Print(f)
	if e != api.OK {
		return "a formula that may not be, " + strconv.Itoa(int(e))
	}
	return s
}

// logOf reads points, a line each.
func logOf(t *testing.T, text string) []api.Point {
	t.Helper()
	var log []api.Point
	for line := range strings.SplitSeq(text, "\n") {
		p, e := trace.ParsePoint(line)
		if e != api.OK || trace.CheckPoint(signature(t), p) != api.OK {
			t.Fatal(line, e)
		}
		log = append(log, p)
	}
	return log
}

// textOfTable is its rows, parted by commas; "-", if there are none.
func textOfTable(t api.Table) string {
	var rows []string
	for _, r := range t.Rows {
		var row []string
		for _, v := range r {
			s, _ := value.Print(v)
			row = append(row, s)
		}
		if len(row) == 0 {
			row = append(row, "true")
		}
		rows = append(rows, strings.Join(row, " "))
	}
	if len(rows) == 0 {
		return "-"
	}
	return strings.Join(rows, ", ")
}

func textOfCells(l []cell) string {
	var all []string
	for _, c := range l {
		if c.over {
			all = append(all, "over")
		} else {
			all = append(all, textOfTable(c.table))
		}
	}
	return strings.Join(all, " | ")
}

func begun(t *testing.T, sig []api.Decl, f api.Formula) *engine.Engine {
	t.Helper()
	e, err := engine.New(sig, f)
	if e == nil || err != api.OK {
		t.Fatalf("New of %s: %v, %d", textOf(f), e, err)
	}
	return e
}

// watch goes through a log, and asks of each Step what P17.2 and P17.3 say whatever the formula means: which answers
// come, in which form, and what Points, Told, Err tell then. It ends where the formula is over, and tells all answers.
func watch(t *testing.T, sig []api.Decl, f api.Formula, log []api.Point) []cell {
	t.Helper()
	return goOn(t, begun(t, sig, f), sig, f, log, 0)
}

// goOn is of an engine to which so many points of the log have come; what it tells is told from its next answer on.
func goOn(t *testing.T, e *engine.Engine, sig []api.Decl, f api.Formula, log []api.Point, came int) []cell {
	t.Helper()
	reach, _ := static.Reach(f)
	found, _ := typing.Infer(sig, f)
	var all []cell
	n := e.Told()
	for i := came; i < len(log); i++ {
		l, err := e.Step(log[i])
		for _, v := range l {
			if v.At != n || v.Time != log[n].Time || log[i].Time <= log[n].Time+reach {
				t.Fatalf("%s over %v, with point %d: %v, want the answer at %d, at its time, when it is due", textOf(f), log, i, v, n)
			}
			hasForm(t, f, found.Free, v.Table)
			all = append(all, cell{table: v.Table})
			n++
		}
		due := n < i && log[n].Time+reach < log[i].Time
		if due != (err == api.ErrOver) || !due && err != api.OK {
			t.Fatalf("%s over %v, with point %d: %d answers, %d; whether another one is due: %v", textOf(f), log, i, n, err, due)
		}
		if e.Points() != i+1 || e.Told() != n || e.Reach() != reach || e.Err() != err {
			t.Fatalf("%s over %v, with point %d: %d points, %d told, reach %d, error %d", textOf(f), log, i, e.Points(), e.Told(), e.Reach(), e.Err())
		}
		if err == api.ErrOver {
			return append(all, cell{over: true})
		}
	}
	return all
}

// hasForm is that of chapter 3, with a column of its kind for each free variable.
func hasForm(t *testing.T, f api.Formula, free []api.Decl, x api.Table) {
	t.Helper()
	ok := table.Check(x) == api.OK && len(x.Vars) == len(free)
	for k, d := range free {
		ok = ok && x.Vars[k] == d.Name
		for _, row := range x.Rows {
			ok = ok && row[k].Kind == d.Kinds[0]
		}
	}
	if !ok {
		t.Fatalf("%s: %v, want a table of %v", textOf(f), x, free)
	}
}

// means asks that the answers of a formula over a log are these, and that the model tells them, too.
func means(t *testing.T, f, log, wants string) {
	t.Helper()
	g, points := formula(t, f), logOf(t, log)
	got := watch(t, signature(t), g, points)
	if s := textOfCells(got); s != wants {
		t.Errorf("%s over %q: %s, want %s", f, log, s, wants)
	}
	l, ok := meaning(signature(t), g, points)
	if s := textOfCells(l); !ok || s != wants {
		t.Errorf("%s over %q: the model says %s, %v, want %s", f, log, s, ok, wants)
	}
}

// tells asks what each Step answers: "0: 1, 2" is the answer at 0, " | " stands between two, and "+ 10" ahead of an error.
func tells(t *testing.T, f, log string, wants ...string) *engine.Engine {
	t.Helper()
	e := begun(t, signature(t), formula(t, f))
	for i, line := range strings.Split(log, "\n") {
		p, err := trace.ParsePoint(line)
		if err != api.OK {
			t.Fatal(line, err)
		}
		l, err := e.Step(p)
		if got := textOfStep(l, err); got != wants[i] {
			t.Errorf("%s, with %s: %q, want %q", f, line, got, wants[i])
		}
	}
	return e
}

func textOfStep(l []api.Verdict, err api.Errno) string {
	var all []string
	for _, v := range l {
		all = append(all, strconv.Itoa(v.At)+": "+textOfTable(v.Table))
	}
	if err != api.OK {
		all = append(all, "+ "+strconv.Itoa(int(err)))
	}
	return strings.Join(all, " | ")
}

// TestExamples: the table of chapter 17 whole, and the examples of DOC.md that an engine answers.
func TestExamples(t *testing.T) {
	tells(t, "(p x)", "@0 (p 1) (p 2)\n@1\n@1\n@2", "", "0: 1, 2", "", "1: - | 2: -")
	tells(t, "(soon [0,3] (p x))", "@0\n@2 (p 5)\n@3\n@4 (p 6)\n@8", "", "", "", "0: 5", "1: 5, 6 | 2: 6 | 3: 6")
	tells(t, "(and (p x) (= y (+ x 1)))", "@0 (p 9223372036854775807)\n@1\n@2", "", "+ 10", "+ 4")
	tells(t, "(agg n cnt x () (p x))", "@0\n@1", "", "0: 0")
	tells(t, "(p x)", "@0 (p \"a\")\n@0", "+ 90", "+ 4")
	for f, reach := range map[string]int64{"(once [0,5] (p x))": 0, "(since [0,*] (not (q x \"a\")) (p x))": 0, "(soon [0,3] (p x))": 3} {
		if got := begun(t, signature(t), formula(t, f)).Reach(); got != reach {
			t.Errorf("Reach of %s: %d, want %d", f, got, reach)
		}
	}
	tells(t, "(agg m max x () (p x))", "@0\n@1", "", "0: -")
	tells(t, "(let r (x) (exists (y) (q x y)) (and (p x) (not (r x))))", "@0 (p 1) (p 2) (q 2 \"b\")\n@1 (q 3 \"a\")\n@2", "", "0: 1", "1: -")
	tells(t, "(letpast r (x) (or (p x) (prev [0,*] (r x))) (r x))", "@0 (p 1)\n@1 (p 2)\n@2\n@3", "", "0: 1", "1: 1, 2", "2: 1, 2")
	tells(t, "(before [0,9] (seq (test (p x)) (seq any (test (q x y)))))", "@0 (p 1) (p 2)\n@1 (q 2 \"a\") (q 3 \"a\")\n@2", "", "0: -", "1: 2 \"a\"")
	tells(t, "(exists (y) (q x y))", "@0 (q 1 \"a\") (q 1 \"b\")\n@1", "", "0: 1")
}

// TestDue: P17.2, P0.2: the answer comes with the first point whose time is above its own and the reach together.
func TestDue(t *testing.T) {
	tells(t, "(soon [0,3] (p x))", "@5 (p 1)\n@8 (p 2)\n@8 (p 3)\n@9 (p 4)", "", "", "", "0: 1, 2, 3")
	tells(t, "(soon [2,3] (p x))", "@5 (p 1)\n@7 (p 2)\n@9\n@1099511627776", "", "", "0: 2", "1: - | 2: -")
	tells(t, "(p x)", "@0 (p 1)\n@0 (p 2)\n@0\n@0 (p 3)\n@1", "", "", "", "", "0: 1 | 1: 2 | 2: - | 3: 3")
	tells(t, "(p x)", "@0\n@1099511627775\n@1099511627776 (p 1)\n@1099511627776", "", "0: -", "1: -", "")
	tells(t, "(soon [0,1099511627776] (p x))", "@0\n@1 (p 1)\n@1099511627776 (p 2)", "", "", "")
	tells(t, "(soon [0,1099511627775] (p x))", "@0\n@1 (p 1)\n@1099511627776 (p 2)", "", "", "0: 1")
	tells(t, "(next [0,9] (p x))", "@0\n@1 (p 1)\n@9 (p 2)\n@10\n@18\n@19", "", "", "", "0: 1", "1: 2", "2: -")
	tells(t, "(next [0,1] (p x))", "@0\n@5 (p 1)\n@6 (p 2)\n@7", "", "0: -", "", "1: 2")
	tells(t, "(prev [0,*] (soon [0,2] (p x)))", "@0\n@1 (p 1)\n@2\n@3\n@4\n@9", "", "", "", "0: -", "1: 1", "2: 1 | 3: - | 4: -")
	tells(t, "(or (p x) (soon [5,5] (p x)))", "@0 (p 1)\n@5 (p 2)\n@6 (p 3)", "", "", "0: 1, 2")
	tells(t, "true", "@0\n@0\n@7\n@7", "", "", "0: true | 1: true", "")
	tells(t, "(soon [0,2] (soon [0,3] (p x)))", "@0\n@4 (p 1)\n@5 (p 2)\n@6 (p 3)", "", "", "", "0: -")
	tells(t, "(let l (x) (soon [0,4] (p x)) (p x))", "@0 (p 1)\n@1", "", "0: 1")
	tells(t, "(let l (x) (soon [0,4] (p x)) (once [0,*] (l x)))", "@0 (p 1)\n@1\n@4\n@5", "", "", "", "0: 1")
}

// TestCounts: P17.3.
func TestCounts(t *testing.T) {
	e := begun(t, signature(t), formula(t, "(next [0,2] (p x))"))
	for i, x := range []struct {
		time         int64
		points, told int
	}{{3, 1, 0}, {4, 2, 0}, {5, 3, 0}, {6, 4, 1}, {6, 5, 1}, {99, 6, 5}} {
		l, err := e.Step(api.Point{Time: x.time})
		if err != api.OK || e.Points() != x.points || e.Told() != x.told || e.Reach() != 2 || e.Err() != api.OK {
			t.Errorf("point %d: %v, %d; %d points, %d told, reach %d, error %d", i, l, err, e.Points(), e.Told(), e.Reach(), e.Err())
		}
	}
	e = begun(t, signature(t), formula(t, "true"))
	if e.Points() != 0 || e.Told() != 0 || e.Reach() != 0 || e.Err() != api.OK {
		t.Error("ahead of the first point", e.Points(), e.Told(), e.Reach(), e.Err())
	}
}

// TestConstants: True, False, comparisons without variables, and of a variable and a term.
func TestConstants(t *testing.T) {
	for f, wants := range map[string]string{
		"true": "true", "false": "-", "(= 1 1)": "true", "(= 1 2)": "-", "(= (+ 1 1) 2)": "true", "(= 1/2 (- 3/2 1/1))": "true", "(= \"a\" \"a\")": "true", "(= \"a\" \"b\")": "-",
		"(< 1 2)": "true", "(< 2 2)": "-", "(< 3 2)": "-", "(<= 2 2)": "true", "(<= 1 2)": "true", "(<= 3 2)": "-", "(< \"a\" \"ab\")": "true", "(<= \"b\" \"ab\")": "-", "(< 1/3 1/2)": "true", "(< (* 2 3) 7)": "true",
		"(= x 3)": "3", "(= 3 x)": "3", "(= x (- (* 2 3) 8))": "-2", "(= (+ 1/2 1/2) x)": "1/1", "(= x \"s\")": "\"s\"",
		"(not true)": "-", "(not (not true))": "true", "(not (< 1 2))": "-", "(not (= \"a\" \"b\"))": "true",
	} {
		means(t, f, "@0\n@0 (p 1)\n@1\n@2", strings.Repeat(wants+" | ", 2)+wants)
	}
}

// TestPreds: what fits terms, and what is told of other predicates or twice.
func TestPreds(t *testing.T) {
	log := "@0 (p 1) (p 2) (p 1) (q 1 \"a\") (q 2 \"a\") (q 1 \"b\") (e 1 1) (e 1 2) (e 2 2) (e 3 1) (e 1 1)\n@1 (r) (r) (f 1/2)\n@2"
	for f, wants := range map[string]string{
		"(p x)": "1, 2 | -", "(p 1)": "true | -", "(p 3)": "- | -", "(r)": "- | true", "(o)": "- | -", "(f x)": "- | 1/2", "(f 1/2)": "- | true",
		"(q x y)": `1 "a", 1 "b", 2 "a" | -`, "(q y x)": `"a" 1, "a" 2, "b" 1 | -`, "(q x \"a\")": "1, 2 | -", "(q 1 y)": `"a", "b" | -`, "(q 2 \"b\")": "- | -", "(q 2 \"a\")": "true | -",
		"(e x x)": "1, 2 | -", "(e x y)": "1 1, 1 2, 2 2, 3 1 | -", "(e y x)": "1 1, 1 3, 2 1, 2 2 | -", "(e x 1)": "1, 3 | -", "(e 2 x)": "2 | -",
	} {
		means(t, f, log, wants)
	}
}

// TestAtOnce: Not, And by each of its cases, Or, Exists, Agg, Join.
func TestAtOnce(t *testing.T) {
	log := "@0 (p 1) (p 2) (p 5) (q 1 \"a\") (q 2 \"a\") (q 1 \"b\") (q 9 \"c\") (e 1 1) (e 1 2) (e 2 2) (e 3 1)\n@1 (r)\n@2 (p 2) (e 2 1) (e 2 3) (q 2 \"c\") (r)\n@3"
	for f, wants := range map[string]string{
		"(not (r))": "true | - | -", "(not (exists (x) (p x)))": "- | true | -",
		"(and (p x) (q x y))": `1 "a", 1 "b", 2 "a" | - | 2 "c"`, "(and (q x y) (p x))": `1 "a", 1 "b", 2 "a" | - | 2 "c"`, "(and (p x) (r))": "- | - | 2", "(and (r) (not (r)))": "- | - | -", "(and (p x) (= x 2))": "2 | - | 2", "(and (p x) (= y 2))": "1 2, 2 2, 5 2 | - | 2 2", "(and (p x) (e y z))": "1 1 1, 1 1 2, 1 2 2, 1 3 1, 2 1 1, 2 1 2, 2 2 2, 2 3 1, 5 1 1, 5 1 2, 5 2 2, 5 3 1 | - | 2 2 1, 2 2 3", "(and (p x) (< 1 2))": "1, 2, 5 | - | 2",
		"(and (p x) (not (e x 2)))": "5 | - | 2", "(and (e x y) (not (p x)))": "3 1 | - | -", "(and (e x y) (not (e y x)))": "1 2, 3 1 | - | 2 1, 2 3", "(and (p x) (not (r)))": "1, 2, 5 | - | -", "(and (q x y) (not (= y \"a\")))": `1 "b", 9 "c" | - | 2 "c"`,
		"(and (p x) (< x 2))": "1 | - | -", "(and (p x) (<= x 2))": "1, 2 | - | 2", "(and (p x) (< 1 x))": "2, 5 | - | 2", "(and (e x y) (= x y))": "1 1, 2 2 | - | -", "(and (e x y) (= (+ x 1) (* y 1)))": "1 2 | - | 2 3", "(and (e x y) (< (- x y) 0))": "1 2 | - | 2 3", "(and (q x y) (< y \"b\"))": `1 "a", 2 "a" | - | -`,
		"(and (p x) (not (< x 2)))": "2, 5 | - | 2", "(and (p x) (not (<= x 2)))": "5 | - | -", "(and (e x y) (not (= x y)))": "1 2, 3 1 | - | 2 1, 2 3",
		"(and (p x) (= y (+ x 1)))": "1 2, 2 3, 5 6 | - | 2 3", "(and (p x) (= (+ x 1) a))": "2 1, 3 2, 6 5 | - | 3 2", "(and (p x) (= y x))": "1 1, 2 2, 5 5 | - | 2 2", "(and (p x) (= x y))": "1 1, 2 2, 5 5 | - | 2 2", "(and (e x y) (= z (* x (- y 7))))": "1 1 -6, 1 2 -5, 2 2 -10, 3 1 -18 | - | 2 1 -12, 2 3 -8",
		"(or (p x) (exists (y) (e x y)))": "1, 2, 3, 5 | - | 2", "(or (r) (p 1))": "true | true | true", "(or (e x y) (e y x))": "1 1, 1 2, 1 3, 2 1, 2 2, 3 1 | - | 1 2, 2 1, 2 3, 3 2",
		"(exists (y) (e x y))": "1, 2, 3 | - | 2", "(exists (x) (e x y))": "1, 2 | - | 1, 3", "(exists (x y) (e x y))": "true | - | true", "(exists (y x) (q x y))": "true | - | true", "(exists (x) (p x))": "true | - | true",
		"(join (p x))": "1, 2, 5 | - | 2", "(join (p x) (q x y) (e x z))": `1 "a" 1, 1 "a" 2, 1 "b" 1, 1 "b" 2, 2 "a" 2 | - | 2 "c" 1, 2 "c" 3`, "(join (e x y) (e y z) (e x z))": "1 1 1, 1 1 2, 1 2 2, 2 2 2, 3 1 1 | - | -", "(join (p x) (e x y) (not (q y \"b\")))": "1 2, 2 2 | - | 2 1, 2 3", "(join (p x) (not (q x \"a\")) (not (e x x)) (not (r)))": "5 | - | -", "(join (r) (not (p 1)))": "- | true | true", "(join true)": "true | true | true",
	} {
		means(t, f, log, wants)
	}
}

// TestAggs: each operation, with groups and without, and of no rows.
func TestAggs(t *testing.T) {
	log := "@0 (e 1 5) (e 1 7) (e 2 5) (f 1/2) (f 3/2) (q 1 \"a\") (q 1 \"b\")\n@1\n@2"
	for f, wants := range map[string]string{
		"(agg s sum y () (e x y))": "17 | 0", "(agg s sum y (x) (e x y))": "5 2, 12 1 | -", "(agg s sum v () (f v))": "2/1 | 0/1",
		"(agg n cnt y () (e x y))": "3 | 0", "(agg n cnt y (x) (e x y))": "1 2, 2 1 | -", "(agg n cnt y () (q x y))": "2 | 0", "(agg z cnt x (y) (e x y))": "5 2, 7 1 | -",
		"(agg m min y () (e x y))": "5 | -", "(agg m min y (x) (e x y))": "5 1, 5 2 | -", "(agg m min y () (q x y))": `"a" | -`, "(agg m min v () (f v))": "1/2 | -",
		"(agg m max y () (e x y))": "7 | -", "(agg m max y (x) (e x y))": "5 2, 7 1 | -", "(agg m max y (x) (q x y))": `"b" 1 | -`, "(agg y max y (x) (e x y))": "1 7, 2 5 | -",
		"(agg a avg y () (e x y))": "17/3 | -", "(agg a avg y (x) (e x y))": "5/1 2, 6/1 1 | -", "(agg a avg v () (f v))": "1/1 | -",
		"(agg m med y () (e x y))": "5/1 | -", "(agg m med y (x) (e x y))": "5/1 2, 6/1 1 | -", "(agg m med v () (f v))": "1/1 | -",
		"(agg n cnt x (y) (agg y sum y (x) (e x y)))": "1 5, 1 12 | -", "(and (agg s sum y (x) (e x y)) (agg n cnt y (x) (e x y)))": "1 5 2, 2 12 1 | -",
		"(let l (n) (before [0,0] (test (agg n cnt z () (exists (y) (q z y))))) (and (l n) (agg s sum v () (f v))))": "1 2/1 | 0 0/1", "(let l (n) (before [0,0] (test (agg n cnt z () (exists (y) (q z y))))) (agg s sum v () (f v)))": "2/1 | 0/1", "(let l (s) (agg s sum v () (f v)) (and (agg n cnt y () (q x y)) (and (l s) (agg a avg z () (exists (x) (e x z))))))": "6/1 2 2/1 | -", "(letpast l (n) (agg n max y () (q x y)) (agg s sum v () (f v)))": "2/1 | 0/1", "(and (let l (s) (agg s sum v () (f v)) (and (l s) (agg n cnt y () (q x y)))) (agg a avg z () (exists (x) (e x z))))": "6/1 2 2/1 | -",
		"(before [0,*] (seq (test (agg n cnt y () (q x y))) (test (agg s sum v () (f v)))))": "2 2/1 | 0 0/1",
	} {
		means(t, f, log, wants)
	}
}

// TestTimes: each kind that looks back or ahead, with [0,0], [a,a], and Open intervals where they may be.
func TestTimes(t *testing.T) {
	log := "@0 (p 1)\n@0 (p 2)\n@1 (p 3) (q 1 \"a\")\n@3 (p 4) (q 3 \"a\")\n@3 (p 5)\n@4 (q 4 \"a\")\n@20"
	for f, wants := range map[string]string{
		"(prev [0,0] (p x))": "- | 1 | - | - | 4 | -", "(prev [1,1] (p x))": "- | - | 2 | - | - | 5", "(prev [1,2] (p x))": "- | - | 2 | 3 | - | 5", "(prev [0,*] (p x))": "- | 1 | 2 | 3 | 4 | 5", "(prev [2,*] (p x))": "- | - | - | 3 | - | -",
		"(next [0,0] (p x))": "2 | - | - | 5 | - | -", "(next [1,1] (p x))": "- | 3 | - | - | - | -", "(next [1,2] (p x))": "- | 3 | 4 | - | - | -", "(next [0,9] (p x))": "2 | 3 | 4 | 5 | - | -",
		"(once [0,0] (p x))": "1 | 1, 2 | 3 | 4 | 4, 5 | -", "(once [1,1] (p x))": "- | - | 1, 2 | - | - | 4, 5", "(once [2,3] (p x))": "- | - | - | 1, 2, 3 | 1, 2, 3 | 3", "(once [0,*] (p x))": "1 | 1, 2 | 1, 2, 3 | 1, 2, 3, 4 | 1, 2, 3, 4, 5 | 1, 2, 3, 4, 5", "(once [2,*] (p x))": "- | - | - | 1, 2, 3 | 1, 2, 3 | 1, 2, 3",
		"(soon [0,0] (p x))": "1, 2 | 2 | 3 | 4, 5 | 5 | -", "(soon [1,1] (p x))": "3 | 3 | - | - | - | -", "(soon [2,3] (p x))": "4, 5 | 4, 5 | 4, 5 | - | - | -",
		"(since [0,0] true (p x))": "1 | 1, 2 | 3 | 4 | 4, 5 | -", "(since [1,*] (not (q x \"a\")) (p x))": "- | - | 2 | 2 | 2 | 2, 5", "(since [3,3] (not (q x \"a\")) (p x))": "- | - | - | 2 | 2 | -",
		"(since [0,*] (exists (y) (q x y)) (p x))": "1 | 2 | 3 | 3, 4 | 5 | -", "(since [0,*] (not (r)) (p x))": "1 | 1, 2 | 1, 2, 3 | 1, 2, 3, 4 | 1, 2, 3, 4, 5 | 1, 2, 3, 4, 5",
		"(until [0,0] true (p x))": "1, 2 | 2 | 3 | 4, 5 | 5 | -", "(until [0,4] (not (q x \"a\")) (p x))": "1, 2, 3, 4, 5 | 2, 3, 4, 5 | 3, 4, 5 | 4, 5 | 5 | -", "(until [3,3] (not (r)) (exists (y) (q x y)))": "3 | 3 | 4 | - | - | -", "(until [3,3] (not (p x)) (exists (y) (q x y)))": "- | - | - | - | - | -", "(until [0,3] (not (q x \"a\")) (exists (y) (q x y)))": "1, 3 | 1, 3 | 1, 3, 4 | 3, 4 | 4 | 4",
		"(until [0,9] (p x) (q x \"a\"))": "- | - | 1, 3 | 3 | - | 4", "(until [2,2] true (p x))": "- | - | 4, 5 | - | - | -",
	} {
		means(t, f, log, wants)
	}
}

// TestPatterns: Before and After, of each kind of regex.
func TestPatterns(t *testing.T) {
	log := "@0 (p 1) (r)\n@0 (p 2)\n@1 (p 3) (r) (q 1 \"a\")\n@3 (r) (q 3 \"a\") (q 2 \"b\")\n@4 (p 1) (q 4 \"a\")\n@40"
	for f, wants := range map[string]string{
		"(before [0,9] any)": "- | true | true | true | true", "(before [0,0] any)": "- | true | - | - | -", "(before [1,1] any)": "- | - | true | - | true", "(before [0,*] (star any))": "true | true | true | true | true", "(before [2,*] (star any))": "- | - | - | true | true",
		"(after [0,9] any)": "true | true | true | true | -", "(after [0,0] any)": "true | - | - | - | -", "(after [1,1] any)": "- | true | - | true | -",
		"(before [0,0] (test (p x)))": "1 | 2 | 3 | - | 1", "(after [0,0] (test (p x)))": "1 | 2 | 3 | - | 1", "(before [1,1] (test (p x)))": "- | - | - | - | -",
		"(before [0,9] (alt (test (p x)) (seq any (test (p x)))))": "1 | 2 | 3 | - | 1", "(after [0,9] (alt (test (p x)) (seq any (test (p x)))))": "1, 2 | 2, 3 | 3 | 1 | 1",
		"(before [0,9] (seq (test (p x)) (seq any (test (q y \"a\")))))": "- | - | 2 1 | 3 3 | -", "(after [0,9] (seq (test (p x)) (seq any (test (q y \"a\")))))": "- | 2 1 | 3 3 | - | -",
		"(before [0,*] (seq (test (p x)) (star (seq any (test (r))))))": "1 | 2 | 2, 3 | 2, 3 | 1", "(after [0,3] (seq (star (seq (test (r)) any)) (test (p x))))": "1, 2 | 2 | 1, 3 | 1 | 1", "(after [3,4] (seq (star any) (test (p x))))": "1 | 1 | 1 | - | -",
		"(before [0,2] (seq (test (p x)) (star any)))": "1 | 1, 2 | 1, 2, 3 | 3 | 1", "(before [3,*] (seq (test (p x)) (star any)))": "- | - | - | 1, 2 | 1, 2, 3", "(before [0,*] (seq (test (p x)) (seq (star any) (test (q x \"a\")))))": "- | - | 1 | 3 | -",
		"(before [0,9] (test (before [0,9] (seq any (test (p x))))))": "- | 2 | 3 | - | 1", "(after [0,9] (seq any (test (after [0,9] (seq any (test (p x)))))))": "3 | - | 1 | - | -",
	} {
		means(t, f, log, wants)
	}
}

// TestLets: Let and LetPast.
func TestLets(t *testing.T) {
	log := "@0 (p 1) (p 2) (e 1 2) (e 3 3) (e 4 2)\n@1 (p 3) (e 2 5)\n@1 (q 1 \"a\")\n@4 (e 5 1) (p 9)\n@5\n@30"
	for f, wants := range map[string]string{
		"(let l (x) (p x) (l x))": "1, 2 | 3 | - | 9 | -", "(let l (x) (p x) (l y))": "1, 2 | 3 | - | 9 | -", "(let l (y x) (e x y) (l x y))": "2 1, 2 4, 3 3 | 5 2 | - | 1 5 | -", "(let l (y x) (e x y) (l 2 x))": "1, 4 | - | - | - | -", "(let l (y x) (e x y) (l x x))": "3 | - | - | - | -", "(let l (x y) (e x y) (l 3 3))": "true | - | - | - | -",
		"(let l () (exists (x) (p x)) (l))": "true | true | - | true | -", "(let p (x) (e x 2) (p x))": "1, 4 | - | - | - | -", "(let p (x) (or (p x) (e x 2)) (p x))": "1, 2, 4 | 3 | - | 9 | -", "(let l (x) (p x) (let l (x) (e x 2) (l x)))": "1, 4 | - | - | - | -", "(let l (x) (p x) (let l (y) (exists (x) (and (l x) (= y (+ x 1)))) (l x)))": "2, 3 | 4 | - | 10 | -",
		"(let l (x) (p x) (and (l x) (not (let l (x) (e x 2) (l x)))))": "2 | 3 | - | 9 | -", "(let l (x) (p x) (q x \"a\"))": "- | - | 1 | - | -",
		"(let l (x) (once [0,*] (p x)) (prev [0,0] (l x)))": "- | - | 1, 2, 3 | - | -", "(once [1,3] (let l (x) (p x) (l x)))": "- | 1, 2 | 1, 2 | 3 | 9", "(soon [1,4] (let l (x) (prev [0,*] (p x)) (l x)))": "1, 2, 3 | 9 | 9 | 9 | -", "(since [0,*] (not (let l (x) (q x \"a\") (l x))) (let m (x) (p x) (m x)))": "1, 2 | 1, 2, 3 | 2, 3 | 2, 3, 9 | 2, 3, 9",
		"(let l (x) (soon [0,1] (p x)) (soon [0,3] (l x)))": "1, 2, 3 | 3, 9 | 9 | 9 | -", "(let l (x) (p x) (before [0,*] (seq (test (l x)) (seq any (test (l y))))))": "- | 1 3, 2 3 | - | - | -",
		"(letpast l (x) (or (p x) (prev [0,*] (l x))) (l x))": "1, 2 | 1, 2, 3 | 1, 2, 3 | 1, 2, 3, 9 | 1, 2, 3, 9", "(letpast l (x) (or (p x) (prev [0,2] (l x))) (l x))": "1, 2 | 1, 2, 3 | 1, 2, 3 | 9 | 9", "(letpast l (x) (prev [0,*] (or (p x) (l x))) (l x))": "- | 1, 2 | 1, 2, 3 | 1, 2, 3 | 1, 2, 3, 9", "(letpast l (x) (or (p x) (prev [0,*] (l x))) (and (l x) (not (p x))))": "- | 1, 2 | 1, 2, 3 | 1, 2, 3 | 1, 2, 3, 9",
		"(letpast l (x) (or (p x) (exists (y) (and (prev [0,*] (l y)) (once [0,*] (e y x))))) (l x))": "1, 2 | 2, 3, 5 | 3, 5 | 1, 3, 9 | 2, 3", "(letpast l () (or (exists (x) (p x)) (not (prev [0,*] (l)))) (l))": "true | true | - | true | -", "(letpast l (n) (or (and (= n 0) (not (prev [0,*] true))) (exists (m) (and (prev [0,*] (l m)) (= n (+ m 1))))) (l n))": "0 | 1 | 2 | 3 | 4",
		"(once [0,1] (letpast l (x) (or (p x) (prev [0,2] (l x))) (l x)))": "1, 2 | 1, 2, 3 | 1, 2, 3 | 9 | 9", "(soon [1,3] (letpast l (x) (or (p x) (prev [0,*] (l x))) (l x)))": "1, 2, 3 | 1, 2, 3, 9 | 1, 2, 3, 9 | 1, 2, 3, 9 | -",
		"(letpast l (x) (or (p x) (prev [0,*] (prev [0,*] (l x)))) (l x))": "1, 2 | 3 | 1, 2 | 3, 9 | 1, 2", "(letpast l (x) (or (p x) (prev [0,*] (once [0,1] (l x)))) (l x))": "1, 2 | 1, 2, 3 | 1, 2, 3 | 1, 2, 3, 9 | 1, 2, 3, 9", "(letpast l (x) (or (p x) (prev [0,*] (next [0,0] (p x)))) (exists (x) (l x)))": "true | true | - | true | -",
		"(letpast l (x) (or (p x) (prev [0,*] (l x))) (letpast m (x) (or (and (l x) (not (p x))) (prev [0,0] (m x))) (m x)))": "- | 1, 2 | 1, 2, 3 | 1, 2, 3 | 1, 2, 3, 9", "(letpast p (x) (or (e x 2) (prev [0,*] (p x))) (p x))": "1, 4 | 1, 4 | 1, 4 | 1, 4 | 1, 4", "(letpast l (x) (let m (x) (prev [0,*] (l x)) (or (p x) (m x))) (l x))": "1, 2 | 1, 2, 3 | 1, 2, 3 | 1, 2, 3, 9 | 1, 2, 3, 9",
	} {
		means(t, f, log, wants)
	}
}

// TestWithin: kinds within each other that wait for one another.
func TestWithin(t *testing.T) {
	log := "@0 (p 1)\n@2 (p 2) (q 1 \"a\")\n@2 (p 3)\n@5 (q 3 \"a\") (r)\n@6 (p 1)\n@9 (r)\n@15 (p 4)\n@90"
	for _, f := range []string{
		"(next [0,9] (soon [1,3] (p x)))", "(next [0,2] (soon [0,5] (p x)))", "(soon [0,2] (next [1,3] (p x)))", "(soon [0,3] (soon [0,5] (p x)))", "(until [0,4] (not (q x \"a\")) (soon [0,3] (p x)))", "(until [0,4] (soon [0,2] (p x)) (soon [0,5] (p x)))", "(until [0,6] (soon [0,3] (p x)) (p x))", "(after [0,4] (seq (test (soon [0,3] (p x))) (star any)))",
		"(after [0,5] (seq any (seq (test (next [0,3] (p x))) (star any))))", "(prev [0,*] (next [0,3] (p x)))", "(next [0,3] (prev [0,*] (p x)))", "(once [0,3] (soon [0,3] (p x)))", "(since [0,*] (not (soon [0,1] (q x \"a\"))) (p x))", "(soon [0,4] (once [0,4] (p x)))", "(before [0,*] (seq (test (soon [0,2] (p x))) (seq any (test (next [0,3] (r))))))",
		"(and (soon [0,2] (p x)) (not (soon [0,7] (q x \"a\"))))", "(or (p x) (soon [2,8] (p x)))", "(join (soon [0,9] (p x)) (once [0,*] (p y)) (not (next [0,1] (r))))", "(agg n cnt x () (soon [0,3] (p x)))", "(exists (x) (until [1,9] (not (r)) (p x)))", "(not (soon [0,3] (r)))", "(next [0,1] (next [0,3] (next [0,1] (p x))))", "(prev [0,3] (prev [0,*] (soon [0,1] (p x))))",
		"(let l (x) (soon [0,3] (p x)) (and (l x) (not (next [0,3] (l x)))))", "(letpast l (x) (or (p x) (prev [0,*] (l x))) (until [0,5] (not (r)) (l x)))", "(letpast l (x) (or (soon [0,0] (p x)) (prev [0,*] (l x))) (soon [0,3] (l x)))",
	} {
		g, points := formula(t, f), logOf(t, log)
		want, ok := meaning(signature(t), g, points)
		if got := watch(t, signature(t), g, points); !ok || !slices.Equal(strings.Split(textOfCells(got), " | "), strings.Split(textOfCells(want), " | ")) {
			t.Errorf("%s: %s, want %s, %v", f, textOfCells(got), textOfCells(want), ok)
		}
	}
}
