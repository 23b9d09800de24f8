package safe_test

import (
	"fmt"
	"math"
	"reflect"
	"slices"
	"strconv"
	"strings"
	"testing"

	"lambrequin/api"
	"lambrequin/parse"
	"lambrequin/safe"
)

func variable(name string) api.Term { return api.Term{IsVar: true, Name: name} }

func symbol(s string) api.Term { return api.Term{Val: api.Value{IsSym: true, Sym: s}} }

func variables(names ...string) []api.Term {
	l := []api.Term{}
	for _, s := range names {
		l = append(l, variable(s))
	}
	return l
}

func on(terms ...api.Term) api.Atom { return api.Atom{Pred: "p", Args: terms} }

func pos(terms ...api.Term) api.Literal { return api.Literal{Kind: 1, Atom: on(terms...)} }

func neg(terms ...api.Term) api.Literal { return api.Literal{Kind: 2, Atom: on(terms...)} }

func compared(l, r api.Term) api.Literal { return api.Literal{Kind: 3, Op: "=", L: l, R: r} }

func rule(head api.Atom, body ...api.Literal) api.Rule { return api.Rule{Head: head, Body: body} }

// oddNames are some that no text's variables have.
func oddNames() []string {
	return []string{"", " ", "x", "X ", " X", "X\x00", "\x00", "\x00X", "\xff", "\xff\xfe", "'X'", "not", "_", "\u00c9", "E\u0301", strings.Repeat("N", 33), strings.Repeat("N", 70000), strings.Repeat("N", 69999) + "M"}
}

// oddKinds are some that no literal has.
func oddKinds() []int {
	return []int{0, -1, -2, -3, 4, 5, 9, 257, 258, 259, math.MaxInt, math.MinInt}
}

func copied(r api.Rule) api.Rule {
	r.Head.Args = slices.Clone(r.Head.Args)
	r.Body = slices.Clone(r.Body)
	for i := range r.Body {
		r.Body[i].Atom.Args = slices.Clone(r.Body[i].Atom.Args)
	}
	return r
}

// wantNames asks twice, so that what the caller does with what is told must change nothing.
func wantNames[T any](t *testing.T, call func(T) []string, of T, want ...string) {
	t.Helper()
	for range 2 {
		got := call(of)
		if !slices.Equal(got, want) {
			t.Errorf("of %.300v: %.300q, want %.300q", of, got, want)
		}
		for i := range got {
			got[i] = "changed"
		}
	}
}

func wantVars(t *testing.T, a api.Atom, want ...string) {
	t.Helper()
	kept := slices.Clone(a.Args)
	wantNames(t, safe.Vars, a, want...)
	if !slices.Equal(a.Args, kept) {
		t.Errorf("%.300v was changed: %.300v", kept, a.Args)
	}
}

func wantBound(t *testing.T, r api.Rule, want ...string) {
	t.Helper()
	kept := copied(r)
	wantNames(t, safe.Bound, r, want...)
	if !reflect.DeepEqual(r, kept) {
		t.Errorf("%.300v was changed: %.300v", kept, r)
	}
}

func wantCheck(t *testing.T, r api.Rule, name string, at int, e api.Errno) {
	t.Helper()
	kept := copied(r)
	if s, n, errno := safe.Check(r); s != name || n != at || errno != e {
		t.Errorf("Check(%.300v): %.100q, %d, %d, want %.100q, %d, %d", r, s, n, errno, name, at, e)
	}
	if !reflect.DeepEqual(r, kept) {
		t.Errorf("%.300v was changed: %.300v", kept, r)
	}
}

func wantAll(t *testing.T, g api.Program, number int, name string, at int, e api.Errno) {
	t.Helper()
	kept := slices.Clone(g.Rules)
	for i := range kept {
		kept[i] = copied(kept[i])
	}
	if n, s, place, errno := safe.All(g); n != number || s != name || place != at || errno != e {
		t.Errorf("All(%.300v): %d, %.100q, %d, %d, want %d, %.100q, %d, %d", g, n, s, place, errno, number, name, at, e)
	}
	if !reflect.DeepEqual(g.Rules, kept) {
		t.Errorf("%.300v was changed: %.300v", kept, g.Rules)
	}
}

func program(t *testing.T, s string) api.Program {
	t.Helper()
	g, at, e := parse.Parse(s)
	if e != api.OK {
		t.Fatalf("%.300q: %d, %d", s, at, e)
	}
	return g
}

// only is a text's one rule.
func only(t *testing.T, s string) api.Rule {
	t.Helper()
	g := program(t, s)
	if len(g.Rules) != 1 {
		t.Fatalf("%.300q: %d rules", s, len(g.Rules))
	}
	return g.Rules[0]
}

func wantSafe(t *testing.T, s string) {
	t.Helper()
	wantCheck(t, only(t, s), "", 0, api.OK)
}

func wantLoose(t *testing.T, s, name string, at int) {
	t.Helper()
	wantCheck(t, only(t, s), name, at, api.ErrSafe)
}

func TestP91Vars(t *testing.T) {
	for s, want := range map[string]string{
		"p":                   "",
		"p(a)":                "",
		"p(a, 1, 'X', x, -3)": "",
		"p(X)":                "X",
		"p(X, Y, Z)":          "X Y Z",
		"p(Z, Y, X)":          "Z Y X",
		"p(Y, Z, X)":          "Y Z X",
		"p(X, X)":             "X",
		"p(X, Y, X)":          "X Y",
		"p(Y, X, X, Y)":       "Y X",
		"p(X, X, X, X, X, X)": "X",
		"p(F, E, D, C, B, A)": "F E D C B A",
		"p(a, X, 1, Y, b, X)": "X Y",
		"p(Y, X, Y, a)":       "Y X",
		"p(X, 'X', x, 'Y')":   "X",
		"p(Xa, X, XA, X1, X)": "Xa X XA X1",
	} {
		a, at, e := parse.Atom(s)
		if e != api.OK {
			t.Fatalf("%q: %d, %d", s, at, e)
		}
		wantVars(t, a, strings.Fields(want)...)
	}
	wantVars(t, api.Atom{})
	wantVars(t, api.Atom{Pred: "X"})
	wantVars(t, api.Atom{Args: []api.Term{}})
}

func TestP91VarsOfAnyTerms(t *testing.T) {
	// A value's name and a variable's value play no part.
	wantVars(t, on(api.Term{Name: "X"}, api.Term{Name: "Y", Val: api.Value{IsSym: true, Sym: "a"}}))
	a := variable("X")
	a.Val = api.Value{IsSym: true, Sym: "a", N: 3}
	wantVars(t, on(a, variable("X"), api.Term{Name: "Y"}, variable("Y"), a), "X", "Y")
	wantVars(t, on(api.Term{}, variable(""), variable("")), "")
	odd := oddNames()
	wantVars(t, on(variables(odd...)...), odd...)
	wantVars(t, on(variables(slices.Concat(odd, odd)...)...), odd...)
}

func TestP91Bound(t *testing.T) {
	for s, want := range map[string]string{
		"p.":                                      "",
		"p(a).":                                   "",
		"p(X, Y).":                                "",
		"p :- q.":                                 "",
		"p :- q(a, 1, 'X').":                      "",
		"p(X) :- q(X).":                           "X",
		"p(X) :- q(Y).":                           "Y",
		"p :- q(X), r(Y).":                        "X Y",
		"p :- q(Y), r(X).":                        "X Y",
		"p :- q(Z, Y), r(X).":                     "X Y Z",
		"p :- q(X), r(X).":                        "X",
		"p :- q(X, Y), r(Y, X), s(X, X).":         "X Y",
		"p :- not q(X).":                          "",
		"p :- X = Y, X < a, 1 > Y.":               "",
		"p(W) :- not q(X), Y = Z.":                "",
		"p(X) :- X = a.":                          "",
		"p :- not q(X), r(Y), Z < Y, s(W).":       "W Y",
		"p :- r(Y), not q(X, Y), Z < Y, s(W).":    "W Y",
		"p :- not q(X), q(X).":                    "X",
		"p :- X = Y, q(Y), not r(Y), X != Y.":     "Y",
		"p(Y, X, Y, a) :- q(Z, X), r(Y, X), s.":   "X Y Z",
		"p :- q(b, X, 1), q(c, a, X), q(Y, d).":   "X Y",
		"p :- q(B, A, C), r(F, D, E), s(H, G).":   "A B C D E F G H",
		"p :- q(Z9, Z), r(Za, ZZ), s(Z_, A, Zz).": "A Z Z9 ZZ Z_ Za Zz",
	} {
		wantBound(t, only(t, s), strings.Fields(want)...)
	}
	wantBound(t, api.Rule{})
	wantBound(t, api.Rule{Body: []api.Literal{}})
	wantBound(t, rule(on(variable("X"))))
}

func TestP91BoundRises(t *testing.T) {
	// Byte by byte, with no heed to letters, or to how long names are.
	odd := oddNames()
	rising := slices.Clone(odd)
	slices.Sort(rising)
	for n := range odd {
		turned := variables(slices.Concat(odd[n:], odd[:n])...)
		wantBound(t, rule(on(), pos(turned...)), rising...)
		wantBound(t, rule(on(), pos(turned[:n]...), neg(variable("W")), pos(turned...), pos(turned[n:]...)), rising...)
	}
	wantBound(t, rule(on(), pos(variables("\xff", "z", "Z", "\x7f", "\x80", "a", "A", "")...)), "", "A", "Z", "a", "z", "\x7f", "\x80", "\xff")
	l := []api.Literal{pos(variables("C", "A")...), pos(variables("B", "C")...), neg(variable("W")), pos(variables("D")...), compared(variable("X"), variable("Y"))}
	orders(l, 0, func(body []api.Literal) {
		wantBound(t, rule(on(variable("H")), body...), "A", "B", "C", "D")
	})
}

func TestP91KindsThatAreNone(t *testing.T) {
	for _, kind := range oddKinds() {
		x := pos(variable("X"))
		x.Kind, x.L, x.R = kind, variable("L"), variable("R")
		wantBound(t, rule(on(), x))
		wantBound(t, rule(on(), x, pos(variable("Y")), x), "Y")
	}
	// What plays no part in a literal of its kind binds nothing.
	x, y, z := pos(variable("X")), compared(variable("Y"), variable("Y")), neg(variable("Z"))
	x.L, x.R, y.Atom, z.L, z.R = variable("L"), variable("R"), on(variable("A")), variable("L"), variable("R")
	wantBound(t, rule(on(), x, y, z), "X")
}

func TestP91NothingHandedInChanges(t *testing.T) {
	// One atom's terms stand in memory just ahead of the next one's, where a longer list of them must not go on.
	terms := variables("D", "C", "B", "A")
	kept := slices.Clone(terms)
	body := []api.Literal{{Kind: 1, Atom: api.Atom{Args: terms[:1]}}, {Kind: 1, Atom: api.Atom{Args: terms[3:]}}, {Kind: 1, Atom: api.Atom{Args: terms[1:2]}}}
	wantBound(t, rule(api.Atom{Args: terms[2:3]}, body...), "A", "C", "D")
	wantCheck(t, rule(api.Atom{Args: terms[2:3]}, body...), "B", -1, api.ErrSafe)
	wantVars(t, api.Atom{Args: terms[:2]}, "D", "C")
	if !slices.Equal(terms, kept) {
		t.Errorf("%v was changed: %v", kept, terms)
	}
}

func TestP92SafeRules(t *testing.T) {
	for _, s := range []string{
		"p.", "p(a).", "p(a, 1, 'X').", "p :- q.", "p :- q(X).", "p(X) :- q(X).", "p(X, Y, X) :- q(Y, X).", "p(X, Y) :- q(X), r(Y).",
		"p :- not q.", "p :- not q(a).", "p :- 1 = 1.", "p(a) :- a < b, not q(1).",
		"p :- q(X), not r(X).", "p :- q(X), X < 3.", "p :- q(X), 3 < X.", "p :- q(X), X = X.", "p :- q(X, Y), X != Y, Y != X.",
		"p(X) :- q(X, a), not r(X), X < 3.", "p(X) :- X < Y, q(X), r(X, Y).", "p(X, Z) :- p(X, Y), e(Y, Z).",
		"p(a, X) :- q(b, X, 1), not r(X, c), X != d.",
	} {
		wantSafe(t, s)
	}
	wantCheck(t, api.Rule{}, "", 0, api.OK)
	wantCheck(t, rule(on(api.Term{})), "", 0, api.OK)
}

func TestP92Head(t *testing.T) {
	wantLoose(t, "p(X) :- q(Y).", "X", -1) // the chapter's example
	wantLoose(t, "p(X).", "X", -1)
	wantLoose(t, "p(a, X).", "X", -1)
	wantLoose(t, "p(X, Y).", "X", -1)
	wantLoose(t, "p(Y, X).", "Y", -1)
	wantLoose(t, "p(X, X).", "X", -1)
	wantLoose(t, "p(X, Y) :- q(X).", "Y", -1)
	wantLoose(t, "p(X, Y) :- q(Y).", "X", -1)
	wantLoose(t, "p(a, X, Y, b, Z) :- q(X), r(Z).", "Y", -1)
	wantLoose(t, "p(X) :- q.", "X", -1)
	wantLoose(t, "p(X) :- q('X', x).", "X", -1)
	wantLoose(t, "p(X) :- q(Xa, x, XX).", "X", -1)
	wantLoose(t, "p(X) :- X = a.", "X", -1)
	wantLoose(t, "p(X) :- a = X, q(a).", "X", -1)
	wantLoose(t, "p(X) :- q(Y), X = Y.", "X", -1)
	wantLoose(t, "p(X) :- not q(X).", "X", -1)
	wantLoose(t, "p(X) :- p(Y).", "X", -1)
}

func TestP92NegatedAtoms(t *testing.T) {
	wantLoose(t, "p :- q(X), not r(X, Y).", "Y", 1) // the chapter's example
	wantLoose(t, "p :- not q(X).", "X", 0)
	wantLoose(t, "p :- not q(a, X).", "X", 0)
	wantLoose(t, "p :- not q(Y, X).", "Y", 0)
	wantLoose(t, "p :- not q(X, Y), r(X).", "Y", 0)
	wantLoose(t, "p :- not q(X, Y), r(Y).", "X", 0)
	wantLoose(t, "p :- r(Y), s, not q(Y, X).", "X", 2)
	wantLoose(t, "p :- not q(X), not r(X).", "X", 0)
	wantLoose(t, "p(X) :- q(X), not r(X), not s(X, Z), t.", "Z", 2)
	wantLoose(t, "p :- a, b, c, d, e, f, g, not h(X).", "X", 7)
	wantLoose(t, "p :- not q(X), X = a.", "X", 0)
}

func TestP92Comparisons(t *testing.T) {
	wantLoose(t, "p :- X < 3.", "X", 0)
	wantLoose(t, "p :- 3 < X.", "X", 0)
	wantLoose(t, "p :- X = a.", "X", 0)
	wantLoose(t, "p :- X = X.", "X", 0)
	wantLoose(t, "p :- X = Y.", "X", 0)
	wantLoose(t, "p :- Y = X.", "Y", 0)
	wantLoose(t, "p :- q(X), X = Y.", "Y", 1)
	wantLoose(t, "p :- q(X), Y = X.", "Y", 1)
	wantLoose(t, "p :- X < Y, q(X).", "Y", 0)
	wantLoose(t, "p :- X < Y, q(Y).", "X", 0)
	wantLoose(t, "p :- q(X), 1 < 2, X != a, X >= Z, q(Y).", "Z", 3)
	for _, op := range []string{"=", "!=", "<", "<=", ">", ">="} {
		wantLoose(t, "p :- q, X "+op+" a, X = a.", "X", 1)
		wantSafe(t, "p :- q(X), X "+op+" a, b "+op+" X.")
	}
	for _, op := range []string{"", "==", "no", "\xff"} {
		x := compared(variable("X"), symbol("a"))
		x.Op = op
		wantCheck(t, rule(on(), x), "X", 0, api.ErrSafe)
		wantCheck(t, rule(on(), x, pos(variable("X"))), "", 0, api.OK)
	}
}

func TestP92TheFirstUseIsTold(t *testing.T) {
	// The head goes ahead of the body, and in a body the one place of the next, whatever the kinds.
	wantLoose(t, "p(X) :- not q(Y).", "X", -1)
	wantLoose(t, "p(Z) :- Y < X, not q(W), r(A).", "Z", -1)
	wantLoose(t, "p(X) :- not q(X), X = a.", "X", -1)
	wantLoose(t, "p :- not q(X), Y < 3.", "X", 0)
	wantLoose(t, "p :- Y < 3, not q(X).", "Y", 0)
	wantLoose(t, "p :- q(Z), Y < Z, not q(X).", "Y", 1)
	wantLoose(t, "p :- q(Z), not q(Z, X), Z < Y.", "X", 1)
	wantLoose(t, "p :- q(Z), Z < 3, not q(Z), X = Z, not r(Y).", "X", 3)
	wantLoose(t, "p :- q(Z), Z < 3, not q(Z), not r(Y), X = Z.", "Y", 3)
	wantLoose(t, "p :- not q(B), not q(A).", "B", 0)
	wantLoose(t, "p :- B = 1, A = 1.", "B", 0)
	// In a literal, too, the first one counts, not the least.
	wantLoose(t, "p :- B < A, A < B.", "B", 0)
	wantLoose(t, "p :- not q(C, B, A).", "C", 0)
	wantLoose(t, "p(C, B, A) :- q(C).", "B", -1)
}

func TestP92AnAtomBehindBinds(t *testing.T) {
	for _, s := range []string{
		"p :- not q(X), r(X).", "p :- X < 3, r(X).", "p :- 3 < X, r(X).", "p :- X < Y, q(Y), r(X).",
		"p(X) :- not q(X), X = Y, not r(Y, X), s(Y), t(X).", "p :- a, b, c, d, e, f, not q(X), h(X).",
	} {
		wantSafe(t, s)
	}
	wantLoose(t, "p :- not q(X), not r(Y), s(X).", "Y", 1)
	wantLoose(t, "p :- X < Y, Z < X, q(X), r(Y).", "Z", 1)
}

func TestP92NamesOfAnyText(t *testing.T) {
	for _, s := range oddNames() {
		wantCheck(t, rule(on(variable(s))), s, -1, api.ErrSafe)
		wantCheck(t, rule(on(), pos(), neg(symbol(s), variable(s))), s, 1, api.ErrSafe)
		wantCheck(t, rule(on(), pos(symbol(s)), compared(variable(s), symbol(s))), s, 1, api.ErrSafe)
		wantCheck(t, rule(on(), compared(symbol(s), variable(s))), s, 0, api.ErrSafe)
		wantCheck(t, rule(on(variable(s)), neg(variable(s)), compared(variable(s), variable(s)), pos(variable(s))), "", 0, api.OK)
		wantAll(t, api.Program{Rules: []api.Rule{{}, rule(on(variable(s)))}}, 1, s, -1, api.ErrSafe)
		others := slices.DeleteFunc(oddNames(), func(x string) bool { return x == s })
		wantCheck(t, rule(on(variables(oddNames()...)...), pos(variables(others...)...)), s, -1, api.ErrSafe)
	}
}

func TestP92WhatPlaysNoPart(t *testing.T) {
	for _, kind := range oddKinds() {
		x := api.Literal{Kind: kind, Atom: on(variable("X")), Op: "=", L: variable("Y"), R: variable("Z")}
		wantCheck(t, rule(on(), x), "", 0, api.OK)
		wantCheck(t, rule(on(variable("X")), x), "X", -1, api.ErrSafe)
		wantCheck(t, rule(on(), x, neg(variable("X"))), "X", 1, api.ErrSafe)
		wantCheck(t, rule(on(), compared(variable("Y"), variable("Y")), x), "Y", 0, api.ErrSafe)
	}
	x, y, z := pos(variable("X")), neg(variable("X")), compared(variable("X"), variable("X"))
	x.L, x.R, y.L, y.R, z.Atom = variable("A"), variable("B"), variable("C"), variable("D"), on(variable("E"))
	wantCheck(t, rule(on(variable("X")), x, y, z), "", 0, api.OK)
	for _, s := range []string{"A", "B", "C", "D", "E"} {
		wantCheck(t, rule(on(variable(s)), x, y, z), s, -1, api.ErrSafe)
	}
	// A value's name is no use, and a variable's value makes no other one of it.
	named, valued := api.Term{Name: "W"}, variable("X")
	valued.Val = api.Value{N: 3}
	wantCheck(t, rule(on(named), neg(named), compared(named, named)), "", 0, api.OK)
	wantCheck(t, rule(on(valued), pos(variable("X")), neg(valued), compared(valued, valued)), "", 0, api.OK)
	wantCheck(t, rule(on(variable("X")), pos(valued)), "", 0, api.OK)
	wantCheck(t, rule(on(variable("W")), pos(named)), "W", -1, api.ErrSafe)
}

func TestP92All(t *testing.T) {
	for _, s := range []string{
		"", "p/1.", "p. q(a). r :- not q(b).", "e(a, b). p(X, Y) :- e(X, Y). p(X, Z) :- p(X, Y), e(Y, Z). q(X) :- p(X, Y), not p(Y, X), X < Y.",
	} {
		wantAll(t, program(t, s), 0, "", 0, api.OK)
	}
	wantAll(t, api.Program{}, 0, "", 0, api.OK)
	wantAll(t, api.Program{Rules: []api.Rule{}}, 0, "", 0, api.OK)
	for s, want := range map[string]struct {
		number int
		name   string
		at     int
	}{
		"p(X).":                               {0, "X", -1},
		"p(X). q.":                            {0, "X", -1},
		"p/1. q/1. p(X).":                     {0, "X", -1},
		"q. p(X).":                            {1, "X", -1},
		"q. r/0. p :- q, not r(Y).":           {1, "Y", 1},
		"p(X) :- q(X). q(a). p :- not r(Z).":  {2, "Z", 0},
		"p :- q, r, 1 < X. p :- not r(Z).":    {0, "X", 2},
		"p. p. p :- q, r, 1 < X. q(Y). p(Z).": {2, "X", 2},
		// Variables of one name in two rules are two.
		"p(X) :- q(X). r(X).":          {1, "X", -1},
		"r :- not q(X). p(X) :- q(X).": {0, "X", 0},
	} {
		wantAll(t, program(t, s), want.number, want.name, want.at, api.ErrSafe)
	}
	for n := range 401 {
		l := slices.Repeat([]api.Rule{rule(on(variable("X")), pos(variable("X")))}, n)
		l = append(l, rule(on(), pos(), neg(variable("Y"))), rule(on(variable("Z"))))
		wantAll(t, api.Program{Rules: l}, n, "Y", 1, api.ErrSafe)
	}
}

// binds is told as plainly as the chapter tells of it.
func binds(r api.Rule, name string) bool {
	return slices.ContainsFunc(r.Body, func(x api.Literal) bool {
		return x.Kind == 1 && slices.ContainsFunc(x.Atom.Args, func(y api.Term) bool { return y.IsVar && y.Name == name })
	})
}

// plainVars holds each name against all that are ahead of it.
func plainVars(terms []api.Term) []string {
	var l []string
	for _, x := range terms {
		if x.IsVar && !slices.Contains(l, x.Name) {
			l = append(l, x.Name)
		}
	}
	return l
}

// wantPlain goes through all uses of a rule; it tells whether the rule is safe.
func wantPlain(t *testing.T, r api.Rule) bool {
	t.Helper()
	type use struct {
		x  api.Term
		at int
	}
	var uses []use
	var binding []api.Term
	for _, x := range r.Head.Args {
		uses = append(uses, use{x, -1})
	}
	for at, l := range r.Body {
		switch l.Kind {
		case 1:
			binding = append(binding, l.Atom.Args...)
		case 2:
			for _, x := range l.Atom.Args {
				uses = append(uses, use{x, at})
			}
		case 3:
			uses = append(uses, use{l.L, at}, use{l.R, at})
		}
		wantVars(t, l.Atom, plainVars(l.Atom.Args)...)
	}
	bound := plainVars(binding)
	slices.Sort(bound)
	wantBound(t, r, bound...)
	for _, u := range uses {
		if u.x.IsVar && !binds(r, u.x.Name) {
			wantCheck(t, r, u.x.Name, u.at, api.ErrSafe)
			return false
		}
	}
	wantCheck(t, r, "", 0, api.OK)
	return true
}

// orders calls with each order of a body.
func orders(l []api.Literal, from int, call func([]api.Literal)) {
	if from == len(l) {
		call(slices.Clone(l))
		return
	}
	for k := from; k < len(l); k++ {
		l[from], l[k] = l[k], l[from]
		orders(l, from+1, call)
		l[from], l[k] = l[k], l[from]
	}
}

func TestP93BodiesInEachOrder(t *testing.T) {
	for s, want := range map[string]bool{
		"p(X) :- X < Y, q(X), r(X, Y).":                            true,
		"p(X, Y) :- q(X), r(Y), not s(X, Y), X != Y.":              true,
		"p(X) :- q(X), q(X), not r(X), X < 3, 3 > X.":              true,
		"p :- not q, 1 = 1, r(X).":                                 true,
		"p :- X = Y, Y = Z, Z = X, q(X, Y), r(Z).":                 true,
		"p(X, Y) :- q(X), r(Z), not s(X, Z), X != Z.":              false,
		"p :- X = Y, Y = Z, Z = X, q(X), r(Z).":                    false,
		"p :- q(X), r(Y), not s(X, Y, Z), X != Y, not t(X).":       false,
		"p(X) :- X = a, not q(X), b.":                              false,
		"p :- not q(V), not r(W), X < V, W < Y, s(V, W), t(X).":    false,
		"p :- not q(V), not r(W), X < V, W < Y, s(V, W), t(X, Y).": true,
	} {
		r := only(t, s)
		orders(slices.Clone(r.Body), 0, func(body []api.Literal) {
			if got := wantPlain(t, rule(r.Head, body...)); got != want {
				t.Errorf("%q, as %v: %t", s, body, got)
			}
		})
	}
}

// made is a rule of bytes: few names, so that they meet often, and Pos literals more than others.
func made(bytes []byte) api.Rule {
	var r api.Rule
	for k, b := range bytes {
		x := variable(string([]byte{'V' + b%5}))
		if b%8 > 4 {
			x = api.Term{Name: "V", Val: api.Value{IsSym: b%8 > 5, Sym: "V", N: int64(b)}}
		}
		kind := []int{1, 0, 1, 2, 3, 1}[b/8%6]
		switch {
		case k%4 == 0 && b >= 208:
			r.Head.Args = append(r.Head.Args, x)
		case k%4 == 0 || len(r.Body) == 0:
			r.Body = append(r.Body, api.Literal{Kind: kind, Atom: on(x), L: x, R: api.Term{IsVar: b%8 > 3, Name: "Y"}})
		default:
			l := &r.Body[len(r.Body)-1]
			l.Atom.Args, l.R = append(l.Atom.Args, x), x
		}
	}
	return r
}

// wantMade asks all that is promised of a rule of bytes, and of it turned round.
func wantMade(t *testing.T, bytes []byte) bool {
	t.Helper()
	r := made(bytes)
	is := wantPlain(t, r)
	other := copied(r)
	slices.Reverse(other.Body)
	if wantPlain(t, other) != is {
		t.Errorf("%.300v: %t, and not so turned round", r, is)
	}
	name, at, e := safe.Check(r)
	number := 1
	if is {
		number = 0
	}
	wantAll(t, api.Program{Rules: []api.Rule{{}, r, rule(on(), r.Body...)}}, number, name, at, e)
	return is
}

func TestP93RulesOfBytes(t *testing.T) {
	state, count := uint32(1), 0
	for n := range 20000 {
		bytes := make([]byte, n%24)
		for i := range bytes {
			state = state*1664525 + 1013904223
			bytes[i] = byte(state >> 24)
		}
		if wantMade(t, bytes) {
			count++
		}
	}
	if count < 4000 || count > 16000 {
		t.Errorf("%d of 20000 are safe", count)
	}
}

func TestP93ManyVariables(t *testing.T) {
	// Names that were held against each other one by one would take far too long.
	const n = 1 << 18
	var falling []string
	for k := range n {
		falling = append(falling, "X"+strconv.Itoa(2*n-k))
	}
	rising := slices.Clone(falling)
	slices.Reverse(rising)
	terms := variables(falling...)
	if l := safe.Vars(on(terms...)); !slices.Equal(l, falling) {
		t.Error(len(l))
	}
	r := rule(on(terms...), neg(terms...), pos(terms[n/2:]...), compared(terms[0], terms[n-1]), pos(terms[:n/2+1]...))
	if l := safe.Bound(r); !slices.Equal(l, rising) {
		t.Error(len(l))
	}
	if s, at, e := safe.Check(r); s != "" || at != 0 || e != api.OK {
		t.Error(s, at, e)
	}
	r.Body = append(r.Body, slices.Repeat([]api.Literal{neg(terms[1]), compared(terms[2], terms[3])}, n)...)
	r.Body = append(r.Body, neg(variable("X")))
	if s, at, e := safe.Check(r); s != "X" || at != 2*n+4 || e != api.ErrSafe {
		t.Error(s, at, e)
	}
}

func FuzzSafe(f *testing.F) {
	for _, s := range []string{"", "p", "\x00\x08\x10\x18\x20\x28\xd0", "\x18\x01\x02\x03\x00\x04\x05\x06\xd0", "safe"} {
		f.Add([]byte(s))
	}
	f.Fuzz(func(t *testing.T, bytes []byte) {
		if len(bytes) <= 2000 {
			wantMade(t, bytes)
		}
	})
}

func ExampleCheck() {
	g, _, _ := parse.Parse("p(X) :- q(Y, X), not r(X), X < Y. p(X) :- q(Y). p :- q(X), not r(X, Y).")
	fmt.Println(safe.Vars(g.Rules[0].Body[0].Atom), safe.Bound(g.Rules[0]))
	for _, r := range g.Rules {
		name, at, e := safe.Check(r)
		fmt.Printf("%q %d %d\n", name, at, e)
	}
	fmt.Println(safe.All(g))
	// Output:
	// [Y X] [X Y]
	// "" 0 0
	// "X" -1 6
	// "Y" 1 6
	// 1 X -1 6
}
