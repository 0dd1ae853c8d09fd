package typing_test

import (
	"fmt"
	"slices"
	"strings"
	"testing"

	"custos/api"
	"custos/ast"
	"custos/syntax"
	"custos/trace"
	"custos/typing"
)

// given is the signature of the chapter's examples, with a predicate more of each kind, and one without arguments.
const given = "p int\nq int str\ni int\nf rat\ns str\nb\nsix int rat str int rat str"

func signature(t *testing.T, text string) []api.Decl {
	t.Helper()
	sig, w := trace.ParseSignature(text)
	if w != (api.Wrong{}) {
		t.Fatal(text, w)
	}
	return sig
}

func formula(t *testing.T, text string) api.Formula {
	t.Helper()
	f, e, at := syntax.Parse(text)
	if e != api.OK {
		t.Fatal(text, e, at)
	}
	return f
}

// inWords tells what was found: "x int, y str; int".
func inWords(found typing.Found) string {
	words := []string{"none", "int", "rat", "str"}
	var free, aggs []string
	for _, d := range found.Free {
		if len(d.Kinds) != 1 {
			return fmt.Sprint("not one kind: ", found)
		}
		free = append(free, d.Name+" "+words[d.Kinds[0]])
	}
	for _, k := range found.Aggs {
		aggs = append(aggs, words[k])
	}
	if len(aggs) == 0 {
		return strings.Join(free, ", ")
	}
	return strings.Join(free, ", ") + "; " + strings.Join(aggs, " ")
}

// refuses asks for an error and nothing beside it.
func refuses(t *testing.T, sig []api.Decl, f api.Formula, e api.Errno) {
	t.Helper()
	if found, got := typing.Infer(sig, f); got != e || len(found.Free) > 0 || len(found.Aggs) > 0 {
		text, _ := syntax.Print(f)
		t.Errorf("%s: %v, %d, want %d", text, found, got, e)
	}
}

// row is a formula and what is found of it; "!" is ErrType.
type row struct{ text, want string }

func asked(t *testing.T, sig string, rows ...row) {
	t.Helper()
	for _, r := range rows {
		if r.want == "!" {
			refuses(t, signature(t, sig), formula(t, r.text), api.ErrType)
			continue
		}
		found, e := typing.Infer(signature(t, sig), formula(t, r.text))
		if got := inWords(found); e != api.OK || got != r.want {
			t.Errorf("%s: %s, %d, want %s", r.text, got, e, r.want)
		}
	}
}

// TestExamples: P9.1, the chapter's table.
func TestExamples(t *testing.T) {
	asked(t, "p int\nq int str",
		row{"(q x y)", "x int, y str"},
		row{"(and (p x) (= y (+ x 1)))", "x int, y int"},
		row{"(and (p x) (= y (+ x 1/2)))", "!"},
		row{"(= x y)", "!"},
		row{"(r x)", "!"},
		row{"(p x x)", "!"},
		row{`(p "a")`, "!"},
		row{"(< 1 1/2)", "!"},
		row{"(exists (x) (q x y))", "y str"},
		row{"(agg m avg x (y) (q x y))", "m rat, y str; int"},
		row{"(agg m sum y () (q x y))", "!"},
		row{"(agg m max y () (q x y))", "m str; str"},
		row{"(let p (a b) (q a b) (p x y))", "x int, y str"},
	)
}

// TestExamplesOfTheWhole: P9.1, those of the document that have a formula.
func TestExamplesOfTheWhole(t *testing.T) {
	asked(t, "p int\nq int str",
		row{`(since [0,*] (not (q x "a")) (p x))`, "x int"},
		row{"(agg n cnt x () (p x))", "n int; int"},
		row{"(and (p x) (< y 3))", "x int, y int"},
		row{"(or (p x) (q x y))", "x int, y str"},
		row{"(let r (x) (exists (y) (q x y)) (and (p x) (not (r x))))", "x int"},
		row{"(letpast r (x) (or (p x) (prev [0,*] (r x))) (r x))", "x int"},
		row{"(before [0,9] (seq (test (p x)) (seq any (test (q x y)))))", "x int, y str"},
	)
}

// TestKindsOfFormulas: P9.1, each kind of formula, with kinds that fit and with kinds that don't.
func TestKindsOfFormulas(t *testing.T) {
	asked(t, given,
		row{"true", ""}, row{"false", ""}, row{"(b)", ""}, row{"(b x)", "!"},
		row{"(six u v w x y z)", "u int, v rat, w str, x int, y rat, z str"}, row{"(six u v w u v w)", "u int, v rat, w str"}, row{"(six u v w x y u)", "!"}, row{"(six u v w x y)", "!"},
		row{`(six 1 1/2 "" -1 -3/1 "1")`, ""}, row{`(six 1 1/2 "" -1 -3 "1")`, "!"},
		row{"(= x 1)", "x int"}, row{"(= x x)", "!"}, row{`(= 1 "a")`, "!"}, row{"(= 1 2)", ""}, row{`(= "a" "a")`, ""},
		row{"(< x 1/2)", "x rat"}, row{"(< x y)", "!"}, row{`(< "1" 1)`, "!"}, row{"(< 2 1)", ""},
		row{`(<= "a" x)`, "x str"}, row{"(<= y x)", "!"}, row{"(<= 1/2 1)", "!"}, row{"(<= 1/2 1/3)", ""},
		row{"(not (p x))", "x int"}, row{"(not (p 1/2))", "!"},
		row{"(and (i x) (s y))", "x int, y str"}, row{"(and (i x) (s x))", "!"},
		row{"(or (f x) (f y))", "x rat, y rat"}, row{"(or (f x) (i x))", "!"},
		row{"(exists (x) (i x))", ""}, row{`(exists (x) (and (i x) (= x "a")))`, "!"},
		row{"(prev [0,1] (i x))", "x int"}, row{`(prev [0,1] (i "x"))`, "!"},
		row{"(next [0,1] (f x))", "x rat"}, row{"(next [0,1] (f 1))", "!"},
		row{"(once [0,*] (s x))", "x str"}, row{"(once [0,*] (s 1))", "!"},
		row{"(soon [0,1] (p x))", "x int"}, row{"(soon [0,1] (p x y))", "!"},
		row{"(since [0,*] (i x) (q x y))", "x int, y str"}, row{"(since [0,*] (s x) (q x y))", "!"}, row{"(since [0,*] (= x y) (q x z))", "x int, y int, z str"},
		row{"(until [0,1] (s y) (q x y))", "x int, y str"}, row{"(until [0,1] (f y) (q x y))", "!"}, row{"(until [0,1] (q x z) (= x y))", "x int, y int, z str"},
		row{"(before [0,1] any)", ""}, row{"(before [0,1] (test (i x)))", "x int"}, row{"(before [0,1] (test (i 1/1)))", "!"},
		row{"(after [0,1] any)", ""}, row{"(after [0,1] (test (s x)))", "x str"}, row{"(after [0,1] (test (= x y)))", "!"},
		row{"(agg y sum x () (i x))", "y int; int"}, row{"(agg y sum x () (s x))", "!"},
		row{"(let r (x) (i x) (r y))", "y int"}, row{`(let r (x) (i x) (r "a"))`, "!"},
		row{"(letpast r (x) (i x) (r y))", "y int"}, row{`(letpast r (x) (i x) (r "a"))`, "!"},
		row{"(join (i x))", "x int"}, row{"(join (i x) (s y) (not (q x y)))", "x int, y str"}, row{"(join (i x) (s y) (not (q y x)))", "!"}, row{"(join (b) (b) (= x y))", "!"},
	)
}

// TestKindsOfRegexes: P9.1, each kind of regex; their tests' variables are those of the formula around them.
func TestKindsOfRegexes(t *testing.T) {
	for _, head := range []string{"(before [0,9] ", "(after [0,9] "} {
		asked(t, given,
			row{head + "(alt (test (i x)) any))", "x int"}, row{head + "(alt (test (i x)) (test (f x))))", "!"}, row{head + "(alt any (test (f y))))", "y rat"},
			row{head + "(seq (test (= x y)) (test (i x))))", "x int, y int"}, row{head + "(seq (test (s x)) (test (i x))))", "!"}, row{head + `(seq any (test (i ""))))`, "!"},
			row{head + "(star (test (i x))))", "x int"}, row{head + `(star (test (i "x"))))`, "!"}, row{head + "(star (test (= x x))))", "!"},
			row{head + "(star (alt (seq any (test (= x y))) (test (s y)))))", "x str, y str"},
			row{head + "(test " + head + "(test (q x y)))))", "x int, y str"}, row{head + "(test " + head + "(test (q x x)))))", "!"},
			row{"(and (i x) " + head + "(test (f x))))", "!"}, row{"(and (i x) " + head + "(test (< y x))))", "x int, y int"},
		)
	}
}

// TestKindsOfTerms: P9.1, each kind of term, of each kind of values.
func TestKindsOfTerms(t *testing.T) {
	for _, sign := range []string{"+", "-", "*"} {
		asked(t, given,
			row{"(i (" + sign + " x 1))", "x int"}, row{"(i (" + sign + " 1 x))", "x int"}, row{"(f (" + sign + " x y))", "x rat, y rat"}, row{"(f (" + sign + " x x))", "x rat"},
			row{"(s (" + sign + " x y))", "!"}, row{`(s (` + sign + ` "a" "b"))`, "!"}, row{"(i (" + sign + " 1 1/2))", "!"}, row{"(i (" + sign + " 1/2 1))", "!"}, row{"(f (" + sign + " 1 2))", "!"},
			row{"(and (s x) (= 1 (" + sign + " 1 x)))", "!"}, row{`(= x (` + sign + ` y "a"))`, "!"}, row{`(= x (` + sign + ` "a" y))`, "!"}, row{`(= x (` + sign + ` y z))`, "!"},
			row{"(and (s x) (= y (" + sign + " x x)))", "!"}, row{"(and (= y (" + sign + " x x)) (s x))", "!"}, row{"(and (= y (" + sign + " x z)) (s y))", "!"},
			row{"(= (" + sign + " 1 2) 3)", ""}, row{"(= (" + sign + " 1 2) 3/2)", "!"}, row{"(< 1/2 (" + sign + " 1/3 2/3))", ""}, row{"(<= (" + sign + " 1 1) (" + sign + " 1/2 1/2))", "!"},
			row{"(= x (" + sign + " (+ 1 y) (- z (* u v))))", "u int, v int, x int, y int, z int"}, row{"(= x (" + sign + " (+ 1/2 y) (- z (* u 1))))", "!"},
		)
	}
	asked(t, given, row{"(p 1)", ""}, row{"(p x)", "x int"}, row{"(f 1/2)", ""}, row{"(f 0/1)", ""}, row{"(f 0)", "!"}, row{"(i 0/1)", "!"}, row{`(s "")`, ""}, row{"(s 1)", "!"}, row{"(s 1/2)", "!"}, row{`(f "a")`, "!"})
}

// TestOperations: P9.1, each operation with an x of each kind.
func TestOperations(t *testing.T) {
	for _, r := range []struct{ op, ofInt, ofRat, ofStr string }{
		{"sum", "y int; int", "y rat; rat", "!"},
		{"cnt", "y int; int", "y int; rat", "y int; str"},
		{"min", "y int; int", "y rat; rat", "y str; str"},
		{"max", "y int; int", "y rat; rat", "y str; str"},
		{"avg", "y rat; int", "y rat; rat", "!"},
		{"med", "y rat; int", "y rat; rat", "!"},
	} {
		head := "(agg y " + r.op + " x () "
		asked(t, given,
			row{head + "(i x))", r.ofInt}, row{head + "(f x))", r.ofRat}, row{head + "(s x))", r.ofStr},
			row{head + "(= x 1))", r.ofInt}, row{head + "(= 1/2 x))", r.ofRat}, row{head + `(= "" x))`, r.ofStr},
			row{head + "true)", "!"}, row{head + "(i z))", "!"}, row{head + "(= x x))", "!"},
		)
		// Of a y that the formula around it tells.
		for kind, name := range map[string]string{"int": "i", "rat": "f", "str": "s"} {
			for of, want := range map[string]string{"i": r.ofInt, "f": r.ofRat, "s": r.ofStr} {
				if !strings.HasPrefix(want, "y "+kind) {
					want = "!"
				}
				part := head + "(" + of + " x))"
				asked(t, given, row{"(and (" + name + " y) " + part + ")", want}, row{"(and " + part + " (" + name + " y))", want})
			}
		}
	}
}

// TestNamesTellTheirX: P9.1, of Sum, Min and Max Name tells the kind of x as well as the other way round; of the others it does not.
func TestNamesTellTheirX(t *testing.T) {
	asked(t, given,
		row{"(and (i y) (agg y sum x () (= x x)))", "y int; int"}, row{"(and (f y) (agg y sum x () (= x x)))", "y rat; rat"}, row{"(and (s y) (agg y sum x () (= x x)))", "!"},
		row{"(and (agg y min x () (= x x)) (s y))", "y str; str"}, row{"(and (agg y max x () (= x x)) (f y))", "y rat; rat"}, row{"(and (= y 1) (agg y max x () true))", "y int; int"},
		row{"(and (i y) (agg y cnt x () (= x x)))", "!"}, row{"(and (f y) (agg y avg x () (= x x)))", "!"}, row{"(and (f y) (agg y med x () (= x x)))", "!"},
		row{"(= y (+ 1 1))", "y int"}, row{"(agg y sum x () (= x (+ x x)))", "!"}, row{"(and (= y (+ z 1)) (agg y max x () (= x x)))", "y int, z int; int"},
	)
}

// TestToldThroughOthers: P9.1, a variable whose kind is told only through others, in either order.
func TestToldThroughOthers(t *testing.T) {
	for _, k := range []struct{ kind, name string }{{"int", "i"}, {"rat", "f"}, {"str", "s"}} {
		for _, sign := range []string{"=", "<", "<="} {
			a, b, end := "("+sign+" x y)", "("+sign+" z y)", "("+k.name+" z)"
			want := "x " + k.kind + ", y " + k.kind + ", z " + k.kind
			asked(t, given, row{"(and " + a + " " + b + ")", "!"}, row{"(and " + b + " " + a + ")", "!"}, row{"(and " + a + " " + end + ")", "!"}, row{"(and " + b + " " + end + ")", "y " + k.kind + ", z " + k.kind})
			for _, l := range [][]string{{a, b, end}, {a, end, b}, {b, a, end}, {b, end, a}, {end, a, b}, {end, b, a}} {
				asked(t, given, row{"(join " + strings.Join(l, " ") + ")", want}, row{"(and " + l[0] + " (or " + l[1] + " (not " + l[2] + ")))", want})
			}
		}
		for _, sign := range []string{"+", "-", "*"} {
			want := "x " + k.kind + ", y " + k.kind + ", z " + k.kind
			if k.kind == "str" {
				want = "!"
			}
			for _, x := range []string{"x", "y", "z"} {
				end := "(" + k.name + " " + x + ")"
				for _, a := range []string{"(= x (" + sign + " y z))", "(< (" + sign + " y z) x)", "(<= (" + sign + " x y) (" + sign + " z z))", "(= (" + sign + " x (" + sign + " y z)) z)"} {
					asked(t, given, row{"(and " + a + " " + end + ")", want}, row{"(and " + end + " " + a + ")", want}, row{a, "!"})
				}
			}
		}
	}
	// A chain of eight, told at either end.
	chain := "(= a b) (= c b) (< c d) (<= e d) (= e f) (= g f) (< g h)"
	want := "a str, b str, c str, d str, e str, f str, g str, h str"
	asked(t, given, row{"(join (s a) " + chain + ")", want}, row{"(join " + chain + " (s h))", want}, row{"(join " + chain + " (s d))", want}, row{"(join " + chain + ")", "!"}, row{"(join (s a) " + chain + " (i h))", "!"})
}

// TestExists: P9.1, variables bound in an Exists that have the name of one outside, and those that are not in Vars.
func TestExists(t *testing.T) {
	asked(t, given,
		row{"(and (i x) (exists (x) (s x)))", "x int"}, row{"(and (exists (x) (s x)) (i x))", "x int"}, row{"(and (exists (x) (s x)) (exists (x) (i x)))", ""},
		row{"(and (i x) (exists (y) (s x)))", "!"}, row{"(and (i x) (exists (y) (q x y)))", "x int"}, row{"(and (exists (y) (and (i y) (= x y))) (< x z))", "x int, z int"},
		row{"(exists (x) (and (i x) (exists (x) (s x))))", ""}, row{"(exists (x) (and (exists (x) (s x)) (i x)))", ""}, row{"(exists (x) (exists (x) (i x)))", "!"},
		row{"(exists (x) (exists (y) (and (= x y) (and (= y z) (s z)))))", "z str"}, row{"(exists (x y) (q x y))", ""}, row{"(exists (y x) (q x y))", ""}, row{"(exists (x y) (q y y))", "!"}, row{"(and (i y) (exists (x y) (q x y)))", "y int"}, row{"(and (i x) (exists (y x) (q y x)))", "x int"},
		row{"(exists (x) (b))", "!"}, row{"(exists (x) (i y))", "!"}, row{"(exists (x y) (i y))", "!"}, row{"(and (i x) (exists (x) (b)))", "!"}, row{"(and (i x) (exists (x) (= x x)))", "!"},
		row{"(exists (x) (= x y))", "!"}, row{"(and (exists (x) (= x y)) (s y))", "y str"}, row{"(and (s y) (exists (x) (= x y)))", "y str"},
		row{"(exists (x) (agg x cnt x () (s x)))", "; str"}, row{"(and (exists (y) (agg y cnt x () (s x))) (s y))", "y str; str"}, row{"(exists (g) (agg n cnt x (g) (q g x)))", "n int; str"},
		row{"(exists (x) (let r (y) (s y) (r x)))", ""}, row{"(and (i x) (exists (x) (let r (x) (f x) (r x))))", "x int"},
	)
}

// TestAggs: P9.1, the groups of an Agg, its own variables, and those of their names outside.
func TestAggs(t *testing.T) {
	asked(t, given,
		row{"(agg n cnt x (y) (q x y))", "n int, y str; int"}, row{"(agg n cnt y (x) (q x y))", "n int, x int; str"}, row{"(agg n max z (v w x y) (six u v w z y x))", "n int, v rat, w str, x str, y rat; int"},
		row{"(and (i x) (agg n cnt x () (s x)))", "n int, x int; str"}, row{"(and (i y) (agg n cnt x () (q x y)))", "n int, y int; int"}, row{"(and (i y) (agg n cnt x (y) (q x y)))", "!"},
		row{"(and (agg n cnt x () (q x y)) (f y))", "n int, y rat; int"}, row{"(and (agg n cnt x (y) (= x y)) (f y))", "n int, y rat; rat"}, row{"(and (f y) (agg n cnt x (y) (= x y)))", "n int, y rat; rat"}, row{"(agg n cnt x (y) (= x y))", "!"},
		row{"(agg x avg x () (i x))", "x rat; int"}, row{"(agg x cnt x () (s x))", "x int; str"}, row{"(agg x sum x () (f x))", "x rat; rat"}, row{"(agg n avg x () (and (i x) (s n)))", "n rat; int"}, row{"(agg n avg x () (and (i x) (= n n)))", "!"},
		row{"(agg n cnt x (g) (i x))", "!"}, row{"(and (s g) (agg n cnt x (g) (i x)))", "g str, n int; int"}, row{"(and (agg n cnt x (g) (i x)) (s g))", "g str, n int; int"}, row{"(agg n cnt x (g) (and (i x) (exists (g) (s g))))", "!"},
		row{"(agg n cnt x () (i y))", "!"}, row{"(agg n cnt x () (and (i x) (= y y)))", "!"}, row{"(agg n cnt x () (and (i x) (= x y)))", "n int; int"}, row{"(and (i y) (agg n cnt x () (= x y)))", "!"},
		row{"(and (s n) (agg n cnt x () (i x)))", "!"}, row{"(and (i n) (agg n cnt x () (i x)))", "n int; int"}, row{"(and (i n) (agg n avg x () (i x)))", "!"}, row{"(< m 1)", "m int"}, row{"(and (agg m max x () (q y x)) (< m 1))", "!"},
		row{"(or (agg n cnt x () (i x)) (agg n cnt x () (s x)))", "n int; int str"}, row{"(or (agg n avg x () (i x)) (agg n cnt x () (i x)))", "!"},
	)
}

// TestOrderOfAggs: P9.1, the kinds of the xs in the order of the text, one ahead of those in its part.
func TestOrderOfAggs(t *testing.T) {
	asked(t, given,
		row{"(agg a cnt x () (agg x cnt y () (s y)))", "a int; int str"}, row{"(agg a max x () (agg x avg x () (agg x cnt x () (s x))))", "a rat; rat int str"}, row{"(agg a max x () (and (agg x max x () (s x)) (agg y cnt y () (f y))))", "a str; str str rat"},
		row{"(and (agg a cnt x () (s x)) (agg c cnt x () (f x)))", "a int, c int; str rat"}, row{"(and (agg a cnt x () (f x)) (agg c cnt x () (s x)))", "a int, c int; rat str"},
		row{"(since [0,1] (agg a cnt x () (f x)) (or (agg c cnt x () (s x)) (agg c cnt x () (i x))))", "a int, c int; rat str int"}, row{"(join (agg a cnt x () (f x)) (i x) (agg c cnt y () (s y)) (agg d cnt y (x) (i x)))", "!"}, row{"(join (agg a cnt x () (f x)) (i x) (agg c cnt y () (s y)) (agg d cnt y (x) (= x y)))", "a int, c int, d int, x int; rat str int"},
		row{"(let r (x) (agg x max y () (s y)) (agg n cnt y () (i y)))", "n int; str int"}, row{"(letpast r (x) (agg x max y () (i y)) (agg n cnt y () (r y)))", "n int; int int"}, row{"(let r (x) (let r (x) (agg x max y () (f y)) (agg x max y () (s y))) (agg n cnt y () (i y)))", "n int; rat str int"},
		row{"(before [0,1] (seq (alt (test (agg n cnt x () (s x))) (star (test (agg n cnt x () (f x))))) (test (agg n cnt x () (i x)))))", "n int; str rat int"}, row{"(after [0,1] (seq (test (agg n cnt x () (agg x min x () (s x)))) (test (agg n cnt x () (i x)))))", "n int; str str int"},
		row{"(exists (n) (not (agg n cnt x () (not (prev [0,1] (exists (n) (agg n min x (x2) (q x x2))))))))", "!"}, row{"(exists (n) (not (agg n cnt x () (not (prev [0,1] (exists (n) (agg n min y (x) (q y x))))))))", "; str int"},
	)
}

// TestLets: P9.1, the first part's variables are its own; the arguments have their kinds, also where the second part alone tells them.
func TestLets(t *testing.T) {
	for _, head := range []string{"(let r ", "(letpast r "} {
		asked(t, given,
			row{head + "(x) (i x) (and (r y) (s x)))", "x str, y int"}, row{head + "(x) (i x) (s x))", "x str"}, row{head + "(x) (and (i x) (s y)) (and (r x) (f y)))", "x int, y rat"}, row{"(and (s x) " + head + "(x) (i x) (b)))", "x str"},
			row{head + "(x y) (q x y) (r y x))", "x str, y int"}, row{head + "(y x) (q x y) (r y x))", "x int, y str"}, row{head + "(y x) (q x y) (r 1 y))", "!"}, row{head + "(y x) (q x y) (r \"\" 1))", ""},
			row{head + "() (i 1) (r))", ""}, row{head + "() (i 1) (r x))", "!"}, row{head + "(x) (i x) (r))", "!"}, row{head + "(x) (i x) (r x y))", "!"}, row{head + "(x y) (q x y) (r x))", "!"},
			row{head + "(x) (b) (b))", "!"}, row{head + "(x) (b) (r 1))", ""}, row{head + "(x) (b) (r y))", "!"}, row{head + "(x) (b) (and (r y) (s y)))", "y str"}, row{head + `(x) (b) (and (r 1) (r "")))`, "!"},
			row{head + "(x) (= x x) (b))", "!"}, row{head + "(x) (= x y) (r 1/2))", ""}, row{head + "(x) (= x (+ y z)) (r 1/2))", ""}, row{head + `(x) (= x (+ y z)) (r "a"))`, "!"}, row{head + "(x) (= x (+ y z)) (r x))", "!"},
			row{head + "(x) (and (i x) (= y y)) (r 1))", "!"}, row{head + "(x) (exists (y) (q x y)) (r y))", "y int"}, row{head + "(x) (agg x avg y () (i y)) (r y))", "y rat; int"}, row{head + "(x y) (agg x max x (y) (q y x)) (r u v))", "u str, v int; str"},
			row{head + "(x) (i x) (r (+ y 1)))", "y int"}, row{head + "(x) (i x) (r (+ y 1/2)))", "!"}, row{head + "(x) (i x) (agg n cnt y () (r y)))", "n int; int"}, row{head + "(x) (b) (agg n sum y () (r y)))", "!"}, row{head + "(x) (b) (and (i n) (agg n sum y () (r y))))", "n int; int"},
			row{head + "(x) (s x) (before [0,1] (seq (test (r y)) (star (test (r \"\"))))))", "y str"}, row{head + "(x) (s x) (exists (x) (not (r x))))", ""},
			row{head + "(u v w x y z) (six u v w x y z) (r z y x w v u))", "u str, v rat, w int, x str, y rat, z int"}, row{head + "(z y x w v u) (six u v w x y z) (r u v w x y z))", "u str, v rat, w int, x str, y rat, z int"},
			row{head + "(x) (and (i x) (i y)) (and (r x) (s y)))", "x int, y str"}, row{"(and (r x) " + head + "(x) (i x) (r x)))", "!"}, row{"(and " + head + "(x) (i x) (r x)) (r x))", "!"},
		)
	}
}

// TestWhichPredicate: P9.1, a Let counts in its second part, a LetPast in both, and the innermost one ahead of the signature's.
func TestWhichPredicate(t *testing.T) {
	asked(t, given,
		row{"(let p (x) (s x) (p y))", "y str"}, row{"(let p (x y) (q x y) (p u v))", "u int, v str"}, row{"(let p (x) (s x) (p 1))", "!"}, row{"(let p (x) (s x) (q y z))", "y int, z str"},
		row{"(let p (x y) (and (p x) (s y)) (p y x))", "x str, y int"}, row{"(let p (x y) (p x y) (p x y))", "!"}, row{"(let p (x) (exists (y) (and (p y) (s x))) (p x))", "x str"},
		row{"(and (p x) (let p (x) (s x) (p y)))", "x int, y str"}, row{"(and (let p (x) (s x) (p y)) (p x))", "x int, y str"}, row{"(and (let p (x) (s x) (p x)) (p x))", "!"},
		row{"(letpast p (x) (s x) (p y))", "y str"}, row{"(letpast p (x y) (and (p x) (s y)) (p y x))", "!"}, row{"(letpast p (x y) (or (q x y) (prev [0,*] (p x y))) (p y x))", "x str, y int"}, row{"(letpast p (x) (exists (y) (and (p y) (s x))) (p x))", "x str"}, row{"(letpast p (x) (and (p 1) (s x)) (p x))", "!"},
		row{"(and (letpast p (x) (s x) (p y)) (p x))", "x int, y str"}, row{"(let r (x) (r x) (r x))", "!"}, row{"(let r (x) (r x) (b))", "!"}, row{"(letpast r (x) (r x) (r x))", "!"}, row{"(letpast r (x) (r x) (r 1))", ""}, row{"(letpast r (x) (prev [0,*] (r x)) (b))", "!"},
		row{"(letpast r (x) (or (i x) (prev [0,*] (r x))) (r y))", "y int"}, row{"(letpast r (x) (or (i x) (prev [0,*] (exists (x) (and (r x) (s x))))) (r y))", "!"}, row{"(letpast r (x) (exists (y) (and (r y) (i y))) (r z))", "z int"}, row{"(letpast r (x y) (and (i x) (r y x)) (r z z))", "z int"},
		row{"(letpast r (x y) (and (i x) (r y y)) (r z z))", "z int"}, row{"(letpast r (x y) (and (i x) (r x z)) (b))", "!"}, row{"(letpast r (x y) (and (i x) (r x z)) (r 1 1/2))", ""},
	)
	asked(t, given,
		row{"(let r (x) (i x) (let r (x) (s x) (r y)))", "y str"}, row{"(let r (x) (i x) (let r (x) (and (r y) (s x)) (r z)))", "z str"}, row{"(let r (x) (i x) (let r (x) (r x) (r y)))", "y int"}, row{"(let r (x) (i x) (letpast r (x) (or (s x) (prev [0,1] (r x))) (r y)))", "y str"}, row{"(let r (x) (i x) (letpast r (x) (r x) (r y)))", "!"},
		row{"(let r (x) (let r (x) (i x) (exists (y) (and (r y) (s x)))) (r x))", "x str"}, row{"(let r (x) (let r (y) (i y) (r x)) (r z))", "z int"}, row{"(letpast r (x) (let r (y) (s y) (r x)) (r z))", "z str"}, row{"(letpast r (x) (let r (y) (and (r y) (s y)) (exists (z) (and (r z) (f x)))) (r x))", "!"}, row{"(letpast r (x) (let r (y) (r y) (r x)) (r 1))", ""}, row{"(letpast r (x) (and (f x) (let r (y) (r y) (exists (z) (r z)))) (r x))", "x rat"},
		row{"(and (let r (x) (i x) (r y)) (let r (x) (s x) (r z)))", "y int, z str"}, row{"(let r (x) (i x) (and (let r (x) (s x) (r y)) (r z)))", "y str, z int"}, row{"(let r (x) (i x) (and (r z) (let r (x) (s x) (r y))))", "y str, z int"}, row{"(let r (x) (i x) (let r (x y) (q x y) (r z)))", "!"}, row{"(let r (x) (i x) (let r (x y) (q x y) (r u v)))", "u int, v str"},
		row{"(let r (x) (i x) (let v (x) (r x) (let r (x) (s x) (and (v y) (r z)))))", "y int, z str"}, row{"(let p (x) (f x) (let q (x) (p x) (let p (x y) (and (q x) (s y)) (p x y))))", "x rat, y str"},
		row{"(let r (x) (i x) (exists (r) (r r)))", ""}, row{"(let x (x) (i x) (x x))", "x int"}, row{"(let r (x) (i x) (agg r cnt r () (r r)))", "r int; int"}, row{"(let sum (cnt) (s cnt) (sum int))", "int str"},
	)
}

// TestWithoutVariables: P9.1, no free variables, and an empty signature.
func TestWithoutVariables(t *testing.T) {
	asked(t, "",
		row{"true", ""}, row{"(b)", "!"}, row{"(p x)", "!"}, row{"(= x 1)", "x int"}, row{"(and (= x 1/2) (< y (* x z)))", "x rat, y rat, z rat"}, row{"(agg n cnt x () (= x 1))", "n int; int"}, row{"(let r (x) (= x \"\") (r y))", "y str"}, row{"(let r () true (r))", ""},
		row{"(letpast r (x) (or (= x 1) (prev [0,1] (r x))) (r y))", "y int"}, row{"(exists (x) (= x 1))", ""}, row{"(exists (x) true)", "!"}, row{"(before [0,1] (star any))", ""}, row{"(= 1 1)", ""},
	)
	found, e := typing.Infer(nil, formula(t, "true"))
	if e != api.OK || len(found.Free) > 0 || len(found.Aggs) > 0 {
		t.Error(found, e)
	}
	asked(t, given, row{"(join (b) (not (b)) (i 1))", ""}, row{"(exists (x y) (q x y))", ""}, row{"(exists (n) (agg n cnt x () (i x)))", "; int"})
}

// TestRising: P9.1, free variables rise byte by byte, wherever they stand.
func TestRising(t *testing.T) {
	asked(t, given, row{"(join (i zz) (s a) (f z_) (i z0) (s b9) (f b) (i z) (s aa))", "a str, aa str, b rat, b9 str, z int, z0 int, z_ rat, zz int"})
	names := []string{"abcdefghijklmnop", "abcdefghijklmnoq", "abcdefghijklmno", "b", "a_", "a0", "aa", "a"}
	f := api.Formula{Kind: api.Join}
	for _, x := range names {
		f.Subs = append(f.Subs, formula(t, "(i "+x+")"))
	}
	found, e := typing.Infer(signature(t, given), f)
	slices.Sort(names)
	if want := strings.Join(names, " int, ") + " int"; e != api.OK || inWords(found) != want {
		t.Error(found, e)
	}
}

// wrongSignatures are one of each error, at the end of what may be.
func wrongSignatures() map[api.Errno][]api.Decl {
	one := api.Decl{Name: "p", Kinds: []int{api.Int}}
	return map[api.Errno][]api.Decl{
		api.ErrArg:  {one, one},
		api.ErrMany: {one, {Name: "q", Kinds: slices.Repeat([]int{api.Int}, api.MaxArgs+1)}},
		api.ErrKind: {one, {Name: "q", Kinds: []int{api.Str, 4}}},
	}
}

// wrongFormulas are one of each error, at the end of what has no kinds that fit.
func wrongFormulas(t *testing.T) map[api.Errno]api.Formula {
	bad := formula(t, `(r "a" (+ "a" 1))`)
	after := func(f api.Formula) api.Formula { return api.Formula{Kind: api.And, Subs: []api.Formula{bad, f}} }
	constant := func(v api.Value) api.Formula {
		return after(api.Formula{Kind: api.Pred, Name: "p", Terms: []api.Term{{Kind: api.Const, Value: v}}})
	}
	deep := api.Formula{Kind: api.True}
	for range api.MaxDepth {
		deep = api.Formula{Kind: api.Not, Subs: []api.Formula{deep}}
	}
	return map[api.Errno]api.Formula{
		api.ErrArg:  after(api.Formula{Kind: api.Not}),
		api.ErrLong: constant(api.Value{Kind: api.Str, S: strings.Repeat("a", api.MaxText+1)}),
		api.ErrMany: after(api.Formula{Kind: api.Join, Subs: slices.Repeat([]api.Formula{{Kind: api.True}}, api.MaxNodes)}),
		api.ErrKind: after(api.Formula{Kind: api.Join + 1}),
		api.ErrVars: after(api.Formula{Kind: api.Exists, Vars: []string{"x", "x"}, Subs: []api.Formula{bad}}),
		api.ErrDeep: after(deep),
	}
}

// TestErrorsInOrder: P9.1, each error of a signature, ahead of each of a formula, ahead of ErrType.
func TestErrorsInOrder(t *testing.T) {
	good := signature(t, given)
	for e, sig := range wrongSignatures() {
		if got := trace.CheckSignature(sig); got != e {
			t.Fatal(sig, got, e)
		}
		refuses(t, sig, formula(t, "true"), e)
		refuses(t, sig, formula(t, "(p 1)"), e)
		refuses(t, sig, formula(t, `(r "a")`), e)
		refuses(t, sig, api.Formula{}, e)
		for _, f := range wrongFormulas(t) {
			refuses(t, sig, f, e)
		}
	}
	for e, f := range wrongFormulas(t) {
		if got := ast.Check(f); got != e {
			t.Fatal(f, got, e)
		}
		refuses(t, good, f, e)
		refuses(t, nil, f, e)
	}
	refuses(t, nil, api.Formula{}, api.ErrKind)
	refuses(t, nil, formula(t, `(r "a" (+ "a" 1))`), api.ErrType)
	for _, v := range []api.Value{{}, {Kind: 4}, {Kind: api.Rat, N: 2, D: 4}, {Kind: api.Rat, N: 1}, {Kind: api.Int, S: "a"}} {
		f := api.Formula{Kind: api.Pred, Name: "p", Terms: []api.Term{{Kind: api.Const, Value: v}}}
		refuses(t, good, f, ast.Check(f))
	}
	// Nine free variables: refused by ast.Check, whatever their kinds.
	nine := formula(t, "(join (i a) (i b) (i c) (i d) (i e) (i f) (i g) (i h))")
	if _, e := typing.Infer(good, nine); e != api.OK {
		t.Error(e)
	}
	nine.Subs = append(nine.Subs, formula(t, "(i j)"))
	refuses(t, good, nine, api.ErrVars)
}

// TestWrong: P9.1, predicates that are not told, another number of arguments, two kinds at one place, none at one place, Str where a number must be.
func TestWrong(t *testing.T) {
	asked(t, given,
		row{"(and (p x) (pp x))", "!"}, row{"(x)", "!"}, row{"(int 1)", "!"}, row{"(let r (x) (i x) (rr x))", "!"}, row{"(let r (x) (t x) (i x))", "!"},
		row{"(p)", "!"}, row{"(p 1 1)", "!"}, row{"(q x)", "!"}, row{"(q x y z)", "!"}, row{"(b 1)", "!"}, row{"(six 1 1/2 \"\" 1 1/2)", "!"}, row{"(and (i x) (p x x))", "!"},
		row{"(q x x)", "!"}, row{"(and (q x y) (q y x))", "!"}, row{"(and (= x 1) (= x 1/1))", "!"}, row{"(and (and (i x) (s y)) (= x y))", "!"}, row{"(and (= x y) (and (s y) (i x)))", "!"}, row{"(join (= a b) (= c d) (i a) (s d) (= b c))", "!"},
		row{"(and (i x) (= y y))", "!"}, row{"(or (i x) (< y z))", "!"}, row{"(exists (y) (and (i x) (= y z)))", "!"}, row{"(= x (* x x))", "!"}, row{"(agg n cnt x () (<= x x))", "!"},
		row{"(and (q x y) (= x (+ x y)))", "!"}, row{"(and (q x y) (= x (- y x)))", "!"}, row{"(and (q x y) (< y (* y y)))", "!"}, row{"(agg n sum y () (q x y))", "!"}, row{"(agg n avg y (x) (q x y))", "!"}, row{"(agg n med y (x) (q x y))", "!"},
		row{"(agg n avg x () (and (= x y) (s y)))", "!"}, row{"(agg n med x () (exists (y) (and (s y) (<= y x))))", "!"}, row{"(and (s n) (agg n sum x () (= x x)))", "!"}, row{"(let r (x) (agg n avg x () (= x y)) (b))", "!"},
	)
}
