package engine_test

import (
	"strings"
	"testing"

	"custos/api"
)

// big stands in these tests for a number to which nothing can be added.
func big(text string) string { return strings.ReplaceAll(text, "big", "9223372036854775807") }

// TestOver: P17.2: what is over, by itself and in each kind that asks for it, and where it is not asked for.
func TestOver(t *testing.T) {
	// (< (+ big 1) 0) is over at each point, c of these logs where p has big.
	c := "(exists (x) (and (p x) (< (+ x 1) 0)))"
	log := "@0 (p 1)\n@0 (p 2) (r)\n@2 (p 3)\n@5 (p big) (p 1)\n@6 (p 4)\n@9 (r)\n@90"
	for f, wants := range map[string]string{
		// In a term.
		"(= x (+ big 1))": "over", "(= (* big 2) x)": "over", "(= (+ big 1) 0)": "over", "(= 0 (- -2 big))": "over", "(< (+ big 1) 0)": "over", "(<= 0 (+ big 1))": "over", "(= x (- (+ big 1) 1))": "over", "(= x (+ big 0))": "big | big | big | big | big | big", "(= x (+ 1/big 1/2))": "over", "(= x (+ 1/big 1/big))": "2/big | 2/big | 2/big | 2/big | 2/big | 2/big",
		// In And, by each case; not for rows that are not there.
		"(and true (< (+ big 1) 0))": "over", "(and false (< (+ big 1) 0))": "over", "(and (< (+ big 1) 0) false)": "over", "(and (p x) (= x (+ big 1)))": "over",
		"(and (p x) (not " + c + "))": "1 | 2 | 3 | over", "(and false (not " + c + "))": "- | - | - | over", "(and (r) (not (< (+ big 1) 0)))": "over",
		"(and (p x) (< (+ x 1) 4))": "1 | 2 | - | over", "(and (p x) (<= 4 (+ x 1)))": "- | - | 3 | over", "(and (p x) (= (+ x 1) (+ x 2)))": "- | - | - | over", "(and (p x) (not (< (+ x 1) 4)))": "- | - | 3 | over", "(and (p x) (not (= x (- x -1))))": "1 | 2 | 3 | over", "(and (r) (< (+ big 1) 0))": "over", "(and (and (p x) (< x 9)) (< (+ x 1) 4))": "1 | 2 | - | 1 | - | -", "(and (and (p x) (< x 0)) (= y (+ x big)))": "- | - | - | - | - | -",
		"(and (p x) (= y (+ x 1)))": "1 2 | 2 3 | 3 4 | over", "(and (p x) (= (* x 2) y))": "1 2 | 2 4 | 3 6 | over",
		// In what decides nothing.
		"(or true " + c + ")": "true | true | true | over", "(or " + c + " true)": "true | true | true | over", "(not " + c + ")": "true | true | true | over", "(exists (x) (and (p x) (= (+ x 1) (+ x 1))))": "true | true | true | over", "(join false " + c + ")": "- | - | - | over", "(join true (not " + c + "))": "true | true | true | over", "(join (p x) (not (< (+ big 1) 0)))": "over",
		// In an Agg.
		"(agg s sum x () (p x))": "1 | 2 | 3 | over", "(agg s sum x (y) (and (p x) (= y 1)))": "1 1 | 2 1 | 3 1 | over", "(agg a avg x () (p x))": "1/1 | 2/1 | 3/1 | over", "(agg m med x () (p x))": "1/1 | 2/1 | 3/1 | over", "(agg m max x () (p x))": "1 | 2 | 3 | big | 4 | -", "(agg n cnt x () (p x))": "1 | 1 | 1 | 2 | 1 | 0", "(agg s sum y (x) (and (p x) (= y x)))": "1 1 | 2 2 | 3 3 | 1 1, big big | 4 4 | -", "(agg n cnt x () (and (p x) (= y (+ x 1))))": "1 | 1 | 1 | over",
		// In what looks back: at all points up to this one, whatever the interval is; Prev below it.
		"(prev [0,0] " + c + ")": "- | - | - | - | over", "(prev [0,*] (< (+ big 1) 0))": "- | over", "(prev [9,9] (< (+ big 1) 0))": "- | over", "(prev [0,*] (prev [0,*] (< (+ big 1) 0)))": "- | - | over", "(once [0,0] " + c + ")": "- | - | - | over", "(once [9,*] " + c + ")": "- | - | - | over", "(since [0,*] " + c + " (r))": "- | true | - | over", "(since [9,9] (r) " + c + ")": "- | - | - | over", "(since [0,*] (not " + c + ") (r))": "- | true | true | over", "(since [0,*] (< (+ big 1) 0) false)": "over", "(before [7,8] (test " + c + "))": "- | - | - | over", "(before [0,0] (seq (test (r)) (test " + c + ")))": "- | - | - | over", "(before [0,*] (alt any (test " + c + ")))": "- | true | true | over",
		// In what looks ahead: at all points that are near enough, also those that are too near.
		"(next [0,0] " + c + ")": "- | - | - | over", "(next [0,2] " + c + ")": "- | - | - | over", "(next [0,3] " + c + ")": "- | - | over", "(next [3,3] " + c + ")": "- | - | over", "(next [1,4] " + c + ")": "- | - | over", "(next [4,5] " + c + ")": "- | - | over", "(next [0,0] (< (+ big 1) 0))": "over", "(next [5,5] (next [0,3] " + c + "))": "- | over",
		"(soon [0,2] " + c + ")": "- | - | - | over", "(soon [0,3] " + c + ")": "- | - | over", "(soon [3,4] " + c + ")": "- | - | over", "(soon [4,4] " + c + ")": "- | - | over", "(soon [5,5] " + c + ")": "over", "(soon [0,0] " + c + ")": "- | - | - | over", "(until [0,2] (r) " + c + ")": "- | - | - | over", "(until [0,3] (not " + c + ") (r))": "true | true | over", "(until [4,4] " + c + " (r))": "- | - | over", "(after [0,2] (test " + c + "))": "- | - | - | over", "(after [0,3] (seq (test (r)) (test " + c + ")))": "- | - | over", "(after [4,4] (alt any (test " + c + ")))": "- | - | over",
		"(once [0,*] (soon [0,3] " + c + "))": "- | - | over", "(soon [0,3] (prev [0,*] " + c + "))": "- | - | - | over", "(soon [0,4] (prev [0,*] " + c + "))": "- | - | over", "(soon [0,1] (soon [0,1] " + c + "))": "- | - | - | over", "(soon [0,2] (soon [0,1] " + c + "))": "- | - | - | over", "(soon [0,1] (next [0,3] " + c + "))": "- | - | over", "(or (soon [0,9] (r)) (soon [0,1] " + c + "))": "true | true | true | over", "(or (soon [0,9] (r)) (soon [0,3] " + c + "))": "true | true | over",
		// In what a Let or LetPast tells, where it is asked for.
		"(let l () " + c + " (r))": "- | true | - | - | - | true", "(let l () (< (+ big 1) 0) (r))": "- | true | - | - | - | true", "(let l () (< (+ big 1) 0) (let m () (l) (r)))": "- | true | - | - | - | true", "(let l () " + c + " (or (l) true))": "true | true | true | over", "(let l () (< (+ big 1) 0) (prev [0,*] (l)))": "- | over", "(let l () " + c + " (soon [0,3] (l)))": "- | - | over", "(let l () (soon [0,3] " + c + ") (prev [0,*] (l)))": "- | - | - | over", "(let l () " + c + " (let l () (r) (l)))": "- | true | - | - | - | true", "(let l () (r) (let l () " + c + " (prev [0,*] (l))))": "- | - | - | - | over",
		"(letpast l (x) (or (p x) (exists (y) (and (prev [0,*] (l y)) (= x (+ y 1))))) (l x))": "1 | 2 | 3 | 1, 4, big | over", "(letpast l (x) (or (p x) (exists (y) (and (prev [0,*] (l y)) (= x (+ y 1))))) (r))": "- | true | - | - | - | true", "(letpast l () (or " + c + " (prev [0,*] (l))) (prev [0,*] (l)))": "- | - | - | - | over", "(letpast l () (or (< (+ big 1) 0) (prev [0,*] (l))) (l))": "over",
	} {
		means(t, big(f), big(log), big(wants))
	}
}

// TestOverInTime: P17.2: ErrOver comes when the answer is due, beside those ahead of it; then nothing comes.
func TestOverInTime(t *testing.T) {
	f, log := "(and (p x) (= y (+ x 1)))", "@0 (p 1)\n@0\n@0 (p big)\n@0 (p 2)\n@1 (p 3)\n@2"
	e := tells(t, f, big(log), "", "", "", "", "0: 1 2 | 1: - | + 10", "+ 4")
	if e.Points() != 5 || e.Told() != 2 || e.Err() != api.ErrOver || e.Reach() != 0 {
		t.Error(e.Points(), e.Told(), e.Err(), e.Reach())
	}
	e = tells(t, f, big("@0 (p big)\n@0 (p 1)\n@0"), "", "", "")
	if e.Points() != 3 || e.Told() != 0 || e.Err() != api.OK {
		t.Error(e.Points(), e.Told(), e.Err())
	}
	e = tells(t, "(soon [0,3] (exists (y) "+f+"))", big("@0 (p 5)\n@3 (p 6)\n@4 (p big)\n@6 (p 1)\n@7\n@8\n@9"), "", "", "0: 5, 6", "", "+ 10", "+ 4", "+ 4")
	if e.Points() != 5 || e.Told() != 1 || e.Err() != api.ErrOver || e.Reach() != 3 {
		t.Error(e.Points(), e.Told(), e.Err(), e.Reach())
	}
	tells(t, "(or (r) (soon [0,9] (< (+ 9223372036854775807 1) 0)))", "@0\n@9\n@10\n@99", "", "", "+ 10", "+ 4")
	tells(t, "(< (+ 9223372036854775807 1) 0)", "@5\n@5\n@6\n@6", "", "", "+ 10", "+ 4")
	// Over at a point of which nothing is asked when the log ends.
	tells(t, "(prev [0,*] (< (+ 9223372036854775807 1) 0))", "@5\n@6\n@6\n@7", "", "0: -", "", "+ 10")
	// A point that may not come is refused first, though it would bring an answer, or ErrOver.
	tells(t, f, big("@0 (p big)\n@1 (p \"a\")\n@2"), "", "+ 90", "+ 4")
	tells(t, f, "@3 (p 1)\n@4 (p 1)\n@3\n@9", "", "0: 1 2", "+ 80", "+ 4")
}
