package arity_test

import (
	"fmt"
	"math"
	"slices"
	"strconv"
	"strings"
	"testing"

	"lambrequin/api"
	"lambrequin/arity"
	"lambrequin/parse"
)

func decl(pred string, n int) api.Decl { return api.Decl{Pred: pred, Arity: n} }

func decls(l ...api.Decl) api.Program { return api.Program{Decls: l} }

func rules(l ...api.Rule) api.Program { return api.Program{Rules: l} }

func rule(head api.Atom, body ...api.Literal) api.Rule { return api.Rule{Head: head, Body: body} }

// on is an atom of some terms.
func on(pred string, n int) api.Atom {
	return api.Atom{Pred: pred, Args: slices.Repeat([]api.Term{{IsVar: true, Name: "X"}}, n)}
}

func pos(pred string, n int) api.Literal { return api.Literal{Kind: 1, Atom: on(pred, n)} }

func neg(pred string, n int) api.Literal { return api.Literal{Kind: 2, Atom: on(pred, n)} }

// cmp is a comparison that holds an atom, which no text has.
func cmp(pred string, n int) api.Literal {
	return api.Literal{Kind: 3, Op: "=", Atom: on(pred, n)}
}

// flat is all that a program holds, in turn: nil and empty lists are the same there.
func flat(g api.Program) []any {
	var l []any
	atom := func(a api.Atom) {
		l = append(l, a.Pred, len(a.Args))
		for _, x := range a.Args {
			l = append(l, x)
		}
	}
	for _, d := range g.Decls {
		l = append(l, d)
	}
	for _, r := range g.Rules {
		atom(r.Head)
		l = append(l, len(r.Body))
		for _, x := range r.Body {
			l = append(l, x.Kind, x.Op, x.L, x.R)
			atom(x.Atom)
		}
	}
	return l
}

// wantOf asks, too, that nothing that is handed in changes, and that what is told is the caller's own.
func wantOf(t *testing.T, g api.Program, at int, errno api.Errno, want ...api.Decl) {
	t.Helper()
	kept := flat(g)
	for range 2 {
		got, place, e := arity.Of(g)
		if !slices.Equal(got, want) || place != at || e != errno {
			t.Errorf("Of(%.300v): %.300v, %d, %d, want %.300v, %d, %d", g, got, place, e, want, at, errno)
		}
		for i := range got {
			got[i] = decl("changed", -1)
		}
		if !slices.Equal(flat(g), kept) {
			t.Fatalf("%.300v was changed: %.300v", kept, g)
		}
	}
}

func program(t *testing.T, s string) api.Program {
	t.Helper()
	g, at, e := parse.Parse(s)
	if e != api.OK {
		t.Fatalf("%.300q: %d, %d", s, at, e)
	}
	return g
}

// wantText is told the predicates as declarations: p/1 q/0.
func wantText(t *testing.T, s, preds string) {
	t.Helper()
	var want []api.Decl
	for _, d := range strings.Fields(preds) {
		pred, n, _ := strings.Cut(d, "/")
		k, err := strconv.Atoi(n)
		if err != nil {
			t.Fatal(err)
		}
		want = append(want, decl(pred, k))
	}
	wantOf(t, program(t, s), 0, api.OK, want...)
}

func wantFault(t *testing.T, s string, at int) {
	t.Helper()
	wantOf(t, program(t, s), at, api.ErrArity)
}

func TestP81NoClauses(t *testing.T) {
	wantText(t, "", "")
	wantText(t, "% p(a). p.", "")
	wantOf(t, api.Program{}, 0, api.OK)
	wantOf(t, api.Program{Decls: []api.Decl{}, Rules: []api.Rule{}}, 0, api.OK)
}

func TestP81DeclarationsAlone(t *testing.T) {
	wantText(t, "p/0.", "p/0")
	wantText(t, "p/6.", "p/6")
	wantText(t, "q/1. p/1. r/0.", "q/1 p/1 r/0")
	wantText(t, "p/2. p/2.", "p/2")
	wantText(t, "p/2. q/3. p/2. q/3. p/2.", "p/2 q/3")
	wantFault(t, "p/2. p/3.", 1)
	wantFault(t, "p/2. q/3. p/2. q/2.", 3)
	wantFault(t, "p/0. p/1.", 1)
}

func TestP81RulesAlone(t *testing.T) {
	wantText(t, "p.", "p/0")
	wantText(t, "p. p. p.", "p/0")
	wantText(t, "p(a). p(b). p(X) :- p(X).", "p/1")
	wantText(t, "p(1,2,3,4,5,6). q(1,2,3,4,5). r(1,2,3,4). s(1,2,3). t(1,2). u(1). v.", "p/6 q/5 r/4 s/3 t/2 u/1 v/0")
	wantText(t, "e(a, b). e(b, c). p(X, Y) :- e(X, Y). p(X, Z) :- p(X, Y), e(Y, Z).", "e/2 p/2")
	wantFault(t, "p. p(a).", 1)
	wantFault(t, "p(a). p(a, b).", 1)
	wantFault(t, "p(1,2,3,4,5,6). p(1,2,3,4,5).", 1)
}

func TestP81DeclarationsAndRules(t *testing.T) {
	wantText(t, "p/1. p(a).", "p/1")
	wantText(t, "p/1. q(a, b). p(a).", "p/1 q/2")
	// A declaration is a use ahead of all rules, wherever it stands.
	wantText(t, "q(a, b). p(a). r/0. p/1.", "r/0 p/1 q/2")
	wantFault(t, "p/2. p(a).", 1)
	wantFault(t, "p(a). p/2.", 1)
	wantFault(t, "p/1. q/0. r :- q, not p.", 4)
	wantFault(t, "p/1. q :- p(a). q/1.", 2)
	wantFault(t, "p. q. p/0. q/0. p/1. q/1.", 2)
}

func TestP81FirstUses(t *testing.T) {
	wantText(t, "p(a) :- q(b, c), not r(1, 2, 3).", "p/1 q/2 r/3")
	wantText(t, "p(a) :- not r(1, 2, 3), q(b, c).", "p/1 r/3 q/2")
	wantText(t, "p :- q(X). q(a) :- not r.", "p/0 q/1 r/0")
	wantText(t, "p :- not q(a). r :- q(X), s.", "p/0 q/1 r/0 s/0")
	wantFault(t, "p(a) :- q. r :- p.", 3)
	wantFault(t, "p :- q(X). q :- p.", 2)
	wantFault(t, "p :- not q(a). r :- q.", 3)
	wantFault(t, "p :- not q(a). r :- not q.", 3)
	wantFault(t, "p :- q(a). q.", 2)
	wantFault(t, "p :- q(a). r :- s, not q.", 4)
}

func TestP81ComparisonsAreNoUses(t *testing.T) {
	// A symbol of the same text is no use, either.
	wantText(t, "p(X) :- q(X), X < 3, p = q, q != 'p'.", "p/1 q/1")
	wantFault(t, "p :- X = Y, a < b, p(X).", 1)
	wantFault(t, "p(X) :- q(X), X < 3. q(X) :- 1 = 1, 2 = 2, p(X, X).", 3)
	wantOf(t, rules(rule(on("p", 1), cmp("p", 2))), 0, api.OK, decl("p", 1))
	wantOf(t, rules(rule(on("p", 1), cmp("q", 2), pos("q", 3))), 0, api.OK, decl("p", 1), decl("q", 3))
	wantOf(t, rules(rule(on("p", 1), cmp("p", 1), cmp("r", 4), pos("p", 2))), 1, api.ErrArity)
	wantOf(t, rules(rule(on("p", 0), cmp("", 2), cmp("q", 0))), 0, api.OK, decl("p", 0))
}

func TestP81KindsThatAreNone(t *testing.T) {
	for _, kind := range []int{0, -1, -2, 4, 5, 9, 257, 258, math.MaxInt, math.MinInt} {
		x := pos("p", 2)
		x.Kind = kind
		wantOf(t, rules(rule(on("p", 1), x)), 0, api.OK, decl("p", 1))
		wantOf(t, rules(rule(on("p", 1), x, pos("q", 0), x, neg("p", 0))), 2, api.ErrArity)
	}
	// What plays no part in an atom's literal changes nothing.
	x, y := pos("q", 2), neg("r", 3)
	x.Op, y.L, y.R = "<", api.Term{Name: "q"}, api.Term{IsVar: true, Name: "p"}
	wantOf(t, rules(rule(on("p", 1), x, y)), 0, api.OK, decl("p", 1), decl("q", 2), decl("r", 3))
}

func TestP81PlacesOfTwoArities(t *testing.T) {
	wantFault(t, "p(X) :- q(X, X), p.", 2) // the chapter's example
	wantFault(t, "p :- p(a).", 1)
	wantFault(t, "p :- not p(a).", 1)
	wantFault(t, "p :- q(X), q.", 2)
	wantFault(t, "p :- q, not q(a).", 2)
	wantFault(t, "p :- not q, q(a).", 2)
	wantFault(t, "p :- q, r, s, t, u, v, w, q(a).", 8)
	wantFault(t, "p(a). q(a). p(b) :- q(b). q(c) :- p(c), q(c, c).", 6)
	for n := range 300 {
		first := rules(slices.Repeat([]api.Rule{rule(on("q", 1)), rule(on("p", 2), pos("q", 1), neg("r", 0))}, n)...)
		first.Rules = append(first.Rules, rule(on("q", 1), pos("q", 2)))
		wantOf(t, first, 4*n+1, api.ErrArity)
		first.Decls = slices.Repeat([]api.Decl{decl("r", 0)}, n)
		wantOf(t, first, 5*n+1, api.ErrArity)
		first.Decls = append(first.Decls, decl("r", 0), decl("r", 1))
		wantOf(t, first, n+1, api.ErrArity)
	}
}

func TestP81TheFirstFaultIsTold(t *testing.T) {
	wantFault(t, "p/1. p/2. p/3. q/1. q/2.", 1)
	wantFault(t, "p/1. q/1. q/2. p/2.", 2)
	wantFault(t, "p/1. q/1. p/2. q/2.", 2)
	wantFault(t, "p(a). q :- p, q(a). p. q(a).", 2)
	wantFault(t, "p :- q, not q(a), p(a). q(a). p(a).", 2)
	// Each use is held against those ahead, not against the most frequent arity.
	wantFault(t, "p. p(a). p(a). p(a).", 1)
	wantFault(t, "p. p. p(a). p.", 2)
	// A fault goes ahead of names that are new behind it.
	wantFault(t, "p. p(a). q. r. s :- t, u.", 1)
}

func TestP81OrderOfPredicates(t *testing.T) {
	wantText(t, "b. a. c. a. b.", "b/0 a/0 c/0")
	wantText(t, "z :- y, x, z, y. x :- w, not z, y. y :- v.", "z/0 y/0 x/0 w/0 v/0")
	wantText(t, "c/1. a/1. b/1. b(X) :- a(X), c(X). a(X) :- d(X), b(X).", "c/1 a/1 b/1 d/1")
	for _, n := range []int{1, 2, 10, 1000, 20000} {
		var l []api.Decl
		for k := range n {
			l = append(l, decl("p"+strconv.Itoa((k*7919)%n), k))
		}
		g := decls(slices.Concat(l, l)...)
		first := slices.CompactFunc(slices.Clone(l), func(a, b api.Decl) bool { return a.Pred == b.Pred })
		wantOf(t, g, 0, api.OK, first...)
		g.Decls = append(g.Decls, decl(l[n/2].Pred, n))
		wantOf(t, g, 2*n, api.ErrArity)
	}
}

func TestP81NamesOfAnyText(t *testing.T) {
	names := []string{"", " ", "p", "P", "p ", " p", "p\x00", "\x00", "\xff", "\xff\xfe", "not", "'p'", "p/1", "\u00e9", "e\u0301", strings.Repeat("n", 33), strings.Repeat("n", 70000), strings.Repeat("n", 69999) + "m"}
	var l []api.Decl
	var uses []api.Literal
	for k, s := range names {
		l, uses = append(l, decl(s, k)), append(uses, []api.Literal{pos(s, k), neg(s, k)}[k%2])
	}
	wantOf(t, decls(l...), 0, api.OK, l...)
	wantOf(t, rules(rule(on("", 0), uses...)), 0, api.OK, l...)
	for k, s := range names {
		wantOf(t, api.Program{Decls: l, Rules: []api.Rule{rule(on("", 0), append(slices.Clone(uses), pos(s, k+1))...)}}, 2*len(l)+1, api.ErrArity)
	}
}

func TestP81AritiesOfAnyNumber(t *testing.T) {
	numbers := []int{0, 1, 6, 7, 256, 257, -1, -6, 1 << 32, 1<<32 + 1, math.MaxInt, math.MinInt}
	for _, n := range numbers {
		wantOf(t, decls(decl("p", n)), 0, api.OK, decl("p", n))
		for _, k := range numbers {
			if n == k {
				wantOf(t, decls(decl("p", n), decl("p", k)), 0, api.OK, decl("p", n))
			} else {
				wantOf(t, decls(decl("p", n), decl("p", k)), 1, api.ErrArity)
			}
		}
	}
	for _, n := range []int{0, 6, 7, 12, 256, 70000} {
		g := rules(rule(on("p", n), pos("q", n), neg("r", n+1)), rule(on("q", n)))
		wantOf(t, g, 0, api.OK, decl("p", n), decl("q", n), decl("r", n+1))
		g.Decls = []api.Decl{decl("r", n)}
		wantOf(t, g, 3, api.ErrArity)
	}
	// What the terms are plays no part, only how many.
	a, b := on("p", 2), on("p", 2)
	a.Args[1], b.Args[0] = api.Term{}, api.Term{Val: api.Value{IsSym: true, Sym: "a"}}
	wantOf(t, rules(rule(a), rule(b), rule(on("p", 2))), 0, api.OK, decl("p", 2))
	wantOf(t, rules(rule(api.Atom{Pred: "p"}), rule(api.Atom{Pred: "p", Args: []api.Term{}})), 0, api.OK, decl("p", 0))
}

func wantFind(t *testing.T, l []api.Decl, pred string, want int, there bool) {
	t.Helper()
	kept := slices.Clone(l)
	n, ok := arity.Find(l, pred)
	if n != want || ok != there {
		t.Errorf("Find(%v, %.100q): %d, %t, want %d, %t", l, pred, n, ok, want, there)
	}
	if !slices.Equal(l, kept) {
		t.Errorf("%v was changed: %v", kept, l)
	}
}

func TestP82Find(t *testing.T) {
	for _, s := range []string{"", "p", "q"} {
		wantFind(t, nil, s, 0, false)
		wantFind(t, []api.Decl{}, s, 0, false)
	}
	l := []api.Decl{decl("p", 1), decl("q", 2), decl("r", 0), decl("s", 6)}
	for _, d := range l {
		wantFind(t, l, d.Pred, d.Arity, true)
	}
	for _, s := range []string{"", "t", "P", "p ", "pq", "p/1", "\xff", strings.Repeat("p", 70000)} {
		wantFind(t, l, s, 0, false)
	}
	// Of names that stand there twice the first counts.
	twice := []api.Decl{decl("q", 5), decl("p", 2), decl("p", 3), decl("q", 4), decl("p", 0), decl("r", 1)}
	wantFind(t, twice, "p", 2, true)
	wantFind(t, twice, "q", 5, true)
	wantFind(t, twice, "r", 1, true)
	wantFind(t, []api.Decl{decl("p", 0), decl("p", 3)}, "p", 0, true)
	wantFind(t, []api.Decl{decl("p", 3), decl("p", 3)}, "p", 3, true)
	odd := []api.Decl{decl("", 3), decl("\xff", -1), decl("A b", math.MaxInt), decl(strings.Repeat("n", 70000), math.MinInt)}
	for _, d := range odd {
		wantFind(t, odd, d.Pred, d.Arity, true)
	}
	wantFind(t, odd, "\xfe", 0, false)
}

// usesOf are a program's uses in one list, made as plainly as the chapter tells of them.
func usesOf(g api.Program) []api.Decl {
	l := slices.Clone(g.Decls)
	for _, r := range g.Rules {
		l = append(l, decl(r.Head.Pred, len(r.Head.Args)))
		for _, x := range r.Body {
			if x.Kind == 1 || x.Kind == 2 {
				l = append(l, decl(x.Atom.Pred, len(x.Atom.Args)))
			}
		}
	}
	return l
}

// wantPlain holds each use against all that are ahead of it.
func wantPlain(t *testing.T, g api.Program) {
	t.Helper()
	uses := usesOf(g)
	var preds []api.Decl
	for at, u := range uses {
		named := func(d api.Decl) bool { return d.Pred == u.Pred }
		if slices.ContainsFunc(uses[:at], func(d api.Decl) bool { return named(d) && d.Arity != u.Arity }) {
			wantOf(t, g, at, api.ErrArity)
			return
		}
		if !slices.ContainsFunc(uses[:at], named) {
			preds = append(preds, u)
		}
	}
	wantOf(t, g, 0, api.OK, preds...)
	for _, u := range uses {
		if n, ok := arity.Find(preds, u.Pred); n != u.Arity || !ok {
			t.Errorf("%q has %d terms, and is told to have %d, %t", u.Pred, u.Arity, n, ok)
		}
	}
}

func byName(l []api.Decl) []api.Decl {
	l = slices.Clone(l)
	slices.SortFunc(l, func(a, b api.Decl) int { return strings.Compare(a.Pred, b.Pred) })
	return l
}

// wantSame asks that a program with the same uses in another order has the same arities, or an error, too.
func wantSame(t *testing.T, g, other api.Program) {
	t.Helper()
	a, _, e := arity.Of(g)
	b, _, f := arity.Of(other)
	if e != f || !slices.Equal(byName(a), byName(b)) {
		t.Errorf("%.300v: %v, %d; %.300v: %v, %d", g, a, e, other, b, f)
	}
}

// orders calls with each order of the rules.
func orders(l []api.Rule, from int, call func([]api.Rule)) {
	if from == len(l) {
		call(slices.Clone(l))
		return
	}
	for k := from; k < len(l); k++ {
		l[from], l[k] = l[k], l[from]
		orders(l, from+1, call)
		l[from], l[k] = l[k], l[from]
	}
}

func TestP83RulesInEachOrder(t *testing.T) {
	for _, s := range []string{
		"", "p.", "p(a). p.", "p/1. p(a). q.", "p/2. q. p(a).",
		"e(a, b). e(b, c). p(X, Y) :- e(X, Y). p(X, Z) :- p(X, Y), e(Y, Z). q :- not p(a, a).",
		"p(a). q(b). r :- p(X), q(X). s :- not r(X), p(X). t :- p = q, s.",
		"p. q :- p. r :- q. s :- r. p(a) :- s.", "p(a). p(b). p(c). p(d). p(e, f).",
	} {
		g := program(t, s)
		orders(slices.Clone(g.Rules), 0, func(l []api.Rule) {
			other := api.Program{Decls: g.Decls, Rules: l}
			wantPlain(t, other)
			wantSame(t, g, other)
		})
	}
}

// made is a program of bytes: few names and arities, so that they meet often.
func made(bytes []byte) api.Program {
	var g api.Program
	for k, b := range bytes {
		pred, n := string([]byte{'a' + b%8}), int(b/8%8)
		if n > 1 { // mostly the arity that the name has elsewhere, too
			n = int(b % 8 % 3)
		}
		switch x := b / 64; {
		case x == 0 && k%3 == 0:
			g.Decls = append(g.Decls, decl(pred, n))
		case x == 0 || len(g.Rules) == 0:
			g.Rules = append(g.Rules, rule(on(pred, n)))
		default:
			r := &g.Rules[len(g.Rules)-1]
			r.Body = append(r.Body, []api.Literal{cmp(pred, n), pos(pred, n), neg(pred, n)}[x%3])
		}
	}
	return g
}

// wantMade asks all that is promised of a program of bytes.
func wantMade(t *testing.T, bytes []byte) (fault bool) {
	t.Helper()
	g := made(bytes)
	wantPlain(t, g)
	other := api.Program{Decls: slices.Clone(g.Decls), Rules: slices.Clone(g.Rules)}
	slices.Reverse(other.Rules)
	wantSame(t, g, other)
	slices.Reverse(other.Decls)
	wantSame(t, g, other)
	_, _, e := arity.Of(g)
	return e != api.OK
}

func TestP83ProgramsOfBytes(t *testing.T) {
	state, faults := uint32(1), 0
	for n := range 20000 {
		bytes := make([]byte, n%20)
		for i := range bytes {
			state = state*1664525 + 1013904223
			bytes[i] = byte(state >> 24)
		}
		if wantMade(t, bytes) {
			faults++
		}
	}
	if faults < 4000 || faults > 16000 {
		t.Errorf("%d faults in 20000", faults)
	}
}

func TestP83ManyUses(t *testing.T) {
	// Names that were held against each other one by one would take far too long.
	const n = 1 << 18
	var g api.Program
	for k := range n {
		g.Decls = append(g.Decls, decl("p"+strconv.Itoa(k), k))
	}
	l, at, e := arity.Of(g)
	if !slices.Equal(l, g.Decls) || at != 0 || e != api.OK {
		t.Error(len(l), at, e)
	}
	g.Rules = []api.Rule{rule(on("q", 0), slices.Repeat([]api.Literal{pos("p1", 1)}, n)...), rule(on("p1", 0))}
	if l, at, e := arity.Of(g); l != nil || at != 2*n+1 || e != api.ErrArity {
		t.Error(len(l), at, e)
	}
}

func FuzzArity(f *testing.F) {
	for _, s := range []string{"", "p", "\x00\x40\x80\xc0", "\x01\x41\x81\xc1\x09\x49\x89\xc9", "arity"} {
		f.Add([]byte(s))
	}
	f.Fuzz(func(t *testing.T, bytes []byte) {
		if len(bytes) <= 2000 {
			wantMade(t, bytes)
		}
	})
}

func ExampleOf() {
	g, _, _ := parse.Parse("p(X) :- q(X, X), not r, X < 3.")
	l, _, e := arity.Of(g)
	fmt.Println(l, e)
	fmt.Println(arity.Find(l, "q"))
	g, _, _ = parse.Parse("p(X) :- q(X, X), p.")
	fmt.Println(arity.Of(g))
	// Output:
	// [{p 1} {q 2} {r 0}] 0
	// 2 true
	// [] 2 5
}
