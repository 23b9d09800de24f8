package printer_test

import (
	"fmt"
	"math"
	"slices"
	"strconv"
	"strings"
	"testing"

	"lambrequin/api"
	"lambrequin/parse"
	"lambrequin/printer"
	"lambrequin/value"
)

func is(t *testing.T, got, want string) {
	t.Helper()
	if got != want {
		t.Errorf("%.300q, want %.300q", got, want)
	}
}

// vars are the variables of these names.
func vars(names ...string) []api.Term {
	var l []api.Term
	for _, s := range names {
		l = append(l, api.Term{IsVar: true, Name: s})
	}
	return l
}

func sym(s string) api.Term { return api.Term{Val: api.Value{IsSym: true, Sym: s}} }

func num(n int64) api.Term { return api.Term{Val: api.Value{N: n}} }

func on(pred string, args ...api.Term) api.Atom { return api.Atom{Pred: pred, Args: args} }

func said(kind int, a api.Atom) api.Literal { return api.Literal{Kind: kind, Atom: a} }

func compared(l api.Term, op string, r api.Term) api.Literal {
	return api.Literal{Kind: api.Cmp, Op: op, L: l, R: r}
}

func ruled(head api.Atom, body ...api.Literal) api.Program {
	return api.Program{Rules: []api.Rule{{Head: head, Body: body}}}
}

func declared(pred string, arity int) api.Program {
	return api.Program{Decls: []api.Decl{{Pred: pred, Arity: arity}}}
}

// flat is all that a program holds, in turn: nil and empty lists are the same there.
func flat(g api.Program) []any {
	var l []any
	atom := func(a api.Atom) {
		l = append(l, a.Pred, len(a.Args))
		for _, x := range a.Args {
			l = append(l, x)
		}
	}
	for _, d := range g.Decls {
		l = append(l, d)
	}
	for _, r := range g.Rules {
		atom(r.Head)
		l = append(l, len(r.Body))
		for _, x := range r.Body {
			l = append(l, x.Kind, x.Op, x.L, x.R)
			atom(x.Atom)
		}
	}
	return l
}

// names are texts that are plain, and of at most 32 bytes.
func names() []string {
	return []string{"p", "z", "edge", "aB_9", "a_", "a0", "nott", "no", "nOT", strings.Repeat("n", 32), "a" + strings.Repeat("_", 31)}
}

// noNames are texts that are no predicate's.
func noNames() []string {
	return []string{"", "not", "P", "_", "_p", "1", "1p", "-p", " p", "p ", "p q", "p.", "p(", "p\n", "p\x00", "'p'", "p'", "p-q", "\u00e9", "p\u00e9", "p\uff41", "\xff", "p\xff", "Not", "NOT", "not ", "p/1", "%", ":-", "=", strings.Repeat("n", 33), "a" + strings.Repeat("_", 32), strings.Repeat("n", 70000)}
}

// symbols are symbols' texts, each with the text of its value.
func symbols() map[string]string {
	n32 := strings.Repeat("n", 32)
	return map[string]string{
		"a": "a", "aB_9": "aB_9", "nott": "nott", n32: n32,
		n32 + "n": "'" + n32 + "n'", "": "''", "not": "'not'", "A": "'A'", "_": "'_'", "X1": "'X1'", "12": "'12'", "-3": "'-3'", "a b": "'a b'", "\n": `'\n'`, "\\": `'\\'`, "'": `'\''`, "it's": `'it\'s'`, "\\n": `'\\n'`,
		"%": "'%'", ".": "'.'", "=": "'='", ":-": "':-'", ", ": "', '", ")": "')'", "\x00": "'\x00'", "\r\t": "'\r\t'", "\xff": "'\xff'", "a\u00e9": "'a\u00e9'", strings.Repeat("x ", 100): "'" + strings.Repeat("x ", 100) + "'",
	}
}

// numbers are numbers, each with its figures.
func numbers() map[int64]string {
	return map[int64]string{0: "0", 7: "7", -7: "-7", 10: "10", -120: "-120", math.MaxInt64: "9223372036854775807", math.MinInt64: "-9223372036854775808"}
}

func TestP71Terms(t *testing.T) {
	for _, s := range slices.Concat(names(), noNames(), []string{"X", "Xy_1", "\x00\n"}) {
		is(t, printer.Term(api.Term{IsVar: true, Name: s}), s)
		for _, v := range []api.Value{{N: 3}, {IsSym: true, Sym: "a"}, {Sym: "a", N: 3}} {
			is(t, printer.Term(api.Term{IsVar: true, Name: s, Val: v}), s)
		}
	}
	for s, text := range symbols() {
		is(t, printer.Term(sym(s)), text)
		is(t, printer.Term(api.Term{Name: "X", Val: api.Value{IsSym: true, Sym: s, N: 5}}), text)
	}
	for n, text := range numbers() {
		is(t, printer.Term(num(n)), text)
		is(t, printer.Term(api.Term{Name: "X", Val: api.Value{Sym: "a", N: n}}), text)
	}
	is(t, printer.Term(api.Term{}), "0")
}

func TestP71Atoms(t *testing.T) {
	six := append(vars("X", "Y"), sym("a"), sym("A b"), num(-3), num(0))
	const text = "X, Y, a, 'A b', -3, 0"
	for _, pred := range slices.Concat(names(), noNames()) {
		is(t, printer.Atom(on(pred)), pred)
		is(t, printer.Atom(api.Atom{Pred: pred, Args: []api.Term{}}), pred)
		is(t, printer.Atom(on(pred, six[:1]...)), pred+"(X)")
		is(t, printer.Atom(on(pred, six[1:3]...)), pred+"(Y, a)")
		is(t, printer.Atom(on(pred, six...)), pred+"("+text+")")
		is(t, printer.Atom(on(pred, slices.Repeat(six, 50)...)), pred+"("+strings.Repeat(text+", ", 49)+text+")")
	}
	is(t, printer.Atom(on("p", vars("", "", "x y")...)), "p(, , x y)")
	is(t, printer.Atom(api.Atom{}), "")
	is(t, printer.Atom(api.Atom{Args: vars("")}), "()")
}

func TestP71Literals(t *testing.T) {
	atoms := map[string]api.Atom{"q": on("q"), "q(X)": on("q", vars("X")...), "q(1, 'A')": on("q", num(1), sym("A")), "not": on("not"), "": on(""), "Q r(X, X)": on("Q r", vars("X", "X")...)}
	terms := map[string]api.Term{"X": vars("X")[0], "a": sym("a"), "'not'": sym("not"), "-7": num(-7), "": {IsVar: true}}
	for _, op := range []string{"=", "!=", "<", "<=", ">", ">=", "", "==", "is not", "\n", "\xff"} {
		for l, left := range terms {
			for r, right := range terms {
				is(t, printer.Literal(compared(left, op, right)), l+" "+op+" "+r)
				// What plays no part, in each kind.
				for text, a := range atoms {
					all := api.Literal{Atom: a, Op: op, L: left, R: right}
					for kind, want := range map[int]string{api.Pos: text, api.Neg: "not " + text, api.Cmp: l + " " + op + " " + r, 0: "", 4: ""} {
						all.Kind = kind
						is(t, printer.Literal(all), want)
					}
				}
			}
		}
	}
	for text, a := range atoms {
		is(t, printer.Literal(said(api.Pos, a)), text)
		is(t, printer.Literal(said(api.Neg, a)), "not "+text)
		for _, kind := range []int{0, 4, 9, -1, -3, math.MaxInt, math.MinInt} {
			is(t, printer.Literal(said(kind, a)), "")
		}
	}
	is(t, printer.Literal(api.Literal{Kind: api.Cmp}), "0  0")
	is(t, printer.Literal(api.Literal{Kind: api.Neg}), "not ")
	is(t, printer.Literal(api.Literal{}), "")
}

func TestP71Rules(t *testing.T) {
	head := on("p", vars("X")...)
	one := said(api.Pos, on("q", vars("X")...))
	is(t, printer.Rule(api.Rule{Head: head}), "p(X).")
	is(t, printer.Rule(api.Rule{Head: head, Body: []api.Literal{}}), "p(X).")
	is(t, printer.Rule(api.Rule{Head: on("p")}), "p.")
	is(t, printer.Rule(api.Rule{Head: head, Body: []api.Literal{one}}), "p(X) :- q(X).")
	is(t, printer.Rule(api.Rule{Head: on("p"), Body: []api.Literal{said(api.Neg, on("p"))}}), "p :- not p.")
	four := []api.Literal{one, said(api.Neg, on("r")), compared(vars("X")[0], "!=", num(3)), compared(sym("A"), "<=", sym("b"))}
	const text = "q(X), not r, X != 3, 'A' <= b"
	is(t, printer.Rule(api.Rule{Head: head, Body: four}), "p(X) :- "+text+".")
	is(t, printer.Rule(api.Rule{Head: head, Body: append(four, four...)}), "p(X) :- "+text+", "+text+".")
	is(t, printer.Rule(api.Rule{Head: head, Body: slices.Repeat(four, 30)}), "p(X) :- "+strings.Repeat(text+", ", 29)+text+".")
	is(t, printer.Rule(api.Rule{Head: on("p", vars("X")[0], sym("A")), Body: []api.Literal{one, said(api.Neg, on("r")), four[2]}}), "p(X, 'A') :- q(X), not r, X != 3.")
	// A literal of another kind is there, but its text is empty.
	is(t, printer.Rule(api.Rule{Head: head, Body: make([]api.Literal, 1)}), "p(X) :- .")
	is(t, printer.Rule(api.Rule{Head: head, Body: []api.Literal{{}, one, {Kind: 9, Atom: on("q")}}}), "p(X) :- , q(X), .")
	is(t, printer.Rule(api.Rule{}), ".")
}

func TestP71Programs(t *testing.T) {
	is(t, printer.Program(api.Program{}), "")
	is(t, printer.Program(api.Program{Decls: []api.Decl{}, Rules: []api.Rule{}}), "")
	decls := []api.Decl{{Pred: "e", Arity: 2}, {Pred: "p"}, {Pred: "e", Arity: 2}}
	rules := []api.Rule{{Head: on("e", sym("a"), sym("B"))}, {Head: on("p", vars("X")...), Body: []api.Literal{said(api.Pos, on("e", vars("X", "Y")...)), said(api.Neg, on("q"))}}, {Head: on("q")}}
	const declLines, ruleLines = "e/2.\np/0.\ne/2.\n", "e(a, 'B').\np(X) :- e(X, Y), not q.\nq.\n"
	is(t, printer.Program(api.Program{Decls: decls}), declLines)
	is(t, printer.Program(api.Program{Rules: rules}), ruleLines)
	is(t, printer.Program(api.Program{Decls: decls, Rules: rules}), declLines+ruleLines)
	is(t, printer.Program(api.Program{Decls: decls[1:2], Rules: rules[2:]}), "p/0.\nq.\n")
	is(t, printer.Program(api.Program{Decls: slices.Repeat(decls, 500), Rules: slices.Repeat(rules, 500)}), strings.Repeat(declLines, 500)+strings.Repeat(ruleLines, 500))
	for _, pred := range slices.Concat(names(), noNames()) {
		for _, n := range []int{0, 6, 7, 12, 100, -1, -10, math.MaxInt, math.MinInt} {
			is(t, printer.Program(declared(pred, n)), fmt.Sprintf("%s/%d.\n", pred, n))
		}
		is(t, printer.Program(ruled(on(pred), said(api.Pos, on(pred)))), pred+" :- "+pred+".\n")
	}
}

func TestP71Facts(t *testing.T) {
	for _, pred := range slices.Concat(names(), noNames()) {
		is(t, printer.Fact(api.Fact{Pred: pred}), pred)
		is(t, printer.Fact(api.Fact{Pred: pred, Args: []api.Value{}}), pred)
		is(t, printer.Fact(api.Fact{Pred: pred, Args: []api.Value{value.Int(3), value.Sym("it's")}}), pred+`(3, 'it\'s')`)
	}
	for s, text := range symbols() {
		is(t, printer.Fact(api.Fact{Pred: "p", Args: []api.Value{value.Sym(s)}}), "p("+text+")")
	}
	for n, text := range numbers() {
		is(t, printer.Fact(api.Fact{Pred: "p", Args: []api.Value{{N: n}, {N: n, Sym: "a"}}}), "p("+text+", "+text+")")
	}
	long := api.Fact{Pred: "p", Args: slices.Repeat([]api.Value{value.Sym("a"), value.Int(-1)}, 1000)}
	is(t, printer.Fact(long), "p("+strings.Repeat("a, -1, ", 999)+"a, -1)")
}

// back tells whether a program's text is parsed as it was.
func back(g api.Program) bool {
	again, at, e := parse.Parse(printer.Program(g))
	return e == api.OK && at == 0 && slices.Equal(flat(again), flat(g))
}

// wantMay asks for what may be the other way, too: it is just what is parsed as it was, if its text isn't too long.
func wantMay(t *testing.T, want bool, programs ...api.Program) {
	t.Helper()
	for _, g := range programs {
		if got := printer.May(g); got != want {
			t.Errorf("May of %.300q is %t: %.300v", printer.Program(g), got, g)
		}
		if len(printer.Program(g)) <= api.MaxText && back(g) != want {
			t.Errorf("%.300q is parsed as it was: %t: %.300v", printer.Program(g), !want, g)
		}
	}
}

// withTerm are programs with a term at each kind of place, between others.
func withTerm(x api.Term) []api.Program {
	y, z := sym("a"), vars("Y")[0]
	return append(withAtom(on("p", x)), slices.Concat(withAtom(on("p", y, x)), withAtom(on("p", z, y, x, z, y, z)), withAtom(on("p", z, z, z, z, z, x)), withLiteral(compared(x, "<", y)), withLiteral(compared(z, "=", x)))...)
}

// withAtom are programs with an atom at each kind of place.
func withAtom(a api.Atom) []api.Program {
	return append(withLiteral(said(api.Pos, a)), append(withLiteral(said(api.Neg, a)), ruled(a), ruled(a, said(api.Pos, on("q"))))...)
}

// withLiteral are programs with a literal first, last, and alone.
func withLiteral(x api.Literal) []api.Program {
	q := said(api.Pos, on("q"))
	first, last, alone := ruled(on("p"), x, q), ruled(on("p"), q, q, q, q, q, q, q, x), ruled(on("p"), x)
	last.Decls = []api.Decl{{Pred: "q"}}
	last.Rules = append(ruled(on("q")).Rules, last.Rules...)
	return []api.Program{first, last, alone}
}

func TestP72Clauses(t *testing.T) {
	wantMay(t, true, api.Program{}, api.Program{Decls: []api.Decl{}, Rules: []api.Rule{}})
	d, r := api.Decl{Pred: "p", Arity: 2}, api.Rule{Head: on("p")}
	for _, n := range []int{1, 399, 400, 401, 402, 800} {
		ds, rs := slices.Repeat([]api.Decl{d}, n), slices.Repeat([]api.Rule{r}, n)
		wantMay(t, n <= 400, api.Program{Decls: ds}, api.Program{Rules: rs}, api.Program{Decls: ds, Rules: rs}, api.Program{Decls: ds, Rules: slices.Repeat(rs, 400/n)}, api.Program{Decls: slices.Repeat(ds, 400/n), Rules: rs})
	}
	// The last one of many counts like the first.
	for k := range 400 {
		ds, rs := slices.Repeat([]api.Decl{d}, 400), slices.Repeat([]api.Rule{r}, 400)
		ds[k].Pred, rs[k].Head.Pred = "P", "P"
		if printer.May(api.Program{Decls: ds}) || printer.May(api.Program{Rules: rs}) {
			t.Errorf("a clause at %d that may not be", k)
		}
	}
}

func TestP72Preds(t *testing.T) {
	for _, s := range names() {
		wantMay(t, true, slices.Concat(withAtom(on(s)), withAtom(on(s, num(1))), []api.Program{declared(s, 1)})...)
	}
	for _, s := range noNames() {
		wantMay(t, false, slices.Concat(withAtom(on(s)), withAtom(on(s, num(1))), []api.Program{declared(s, 1)})...)
	}
	for b := range 256 {
		s := string([]byte{byte(b)})
		first, inner := 'a' <= b && b <= 'z', partOfName(byte(b))
		wantMay(t, first, declared(s, 0), ruled(on(s)), declared(s+"a", 0))
		wantMay(t, inner, declared("a"+s, 0), ruled(on("a"+s+"a")))
	}
}

func partOfName(b byte) bool {
	return strings.IndexByte("abcdefghijklmnopqrstuvwxyzABCDEFGHIJKLMNOPQRSTUVWXYZ0123456789_", b) >= 0
}

func TestP72Arities(t *testing.T) {
	for n := range 7 {
		wantMay(t, true, declared("p", n))
	}
	for _, n := range []int{-1, -6, -7, 7, 8, 256, 1 << 32, -1 << 32, math.MaxInt, math.MinInt} {
		wantMay(t, false, declared("p", n), api.Program{Decls: []api.Decl{{Pred: "p"}, {Pred: "q", Arity: n}}, Rules: []api.Rule{{Head: on("p")}}})
	}
}

func TestP72TermsOfAnAtomAndLiteralsOfABody(t *testing.T) {
	for _, x := range append(vars("X"), sym("a"), num(1)) {
		for n := range 30 {
			wantMay(t, n <= 6, withAtom(on("p", slices.Repeat([]api.Term{x}, n)...))...)
		}
	}
	for _, x := range []api.Literal{said(api.Pos, on("q")), said(api.Neg, on("q", vars("X")...)), compared(num(1), "=", sym("a"))} {
		for n := range 30 {
			wantMay(t, n <= 8, ruled(on("p"), slices.Repeat([]api.Literal{x}, n)...))
		}
	}
}

func TestP72Variables(t *testing.T) {
	for _, s := range []string{"X", "A", "Z", "Not", "NOT", "Xy_9", "X_", "X0", "X" + strings.Repeat("x", 31), "Z" + strings.Repeat("_", 31)} {
		x := api.Term{IsVar: true, Name: s}
		wantMay(t, true, withTerm(x)...)
		for _, v := range []api.Value{{N: 1}, {N: -1}, {Sym: "a"}, {IsSym: true}, {IsSym: true, Sym: s}, {IsSym: true, Sym: "a", N: 1}} {
			x.Val = v
			wantMay(t, false, withTerm(x)...)
		}
	}
	for _, s := range []string{"", "x", "x1", "_", "_X", "1", "1X", "-X", " X", "X ", "X Y", "X.", "X-1", "X\n", "X\x00", "'X'", "X'", "\u00c4", "X\u00e9", "X\uff21", "\xff", "X\xff", "not", "%", "X" + strings.Repeat("x", 32), "Z" + strings.Repeat("_", 70000)} {
		wantMay(t, false, withTerm(api.Term{IsVar: true, Name: s})...)
	}
	for b := range 256 {
		s := string([]byte{byte(b)})
		wantMay(t, 'A' <= b && b <= 'Z', ruled(on("p", vars(s)...)), ruled(on("p", vars(s+"X")...)))
		wantMay(t, partOfName(byte(b)), ruled(on("p", vars("X"+s)...)), ruled(on("p", vars("X"+s+"x")...)))
	}
}

func TestP72Values(t *testing.T) {
	for s := range symbols() {
		wantMay(t, true, withTerm(sym(s))...)
		for _, n := range []int64{1, -1, math.MinInt64} {
			wantMay(t, false, withTerm(api.Term{Val: api.Value{IsSym: true, Sym: s, N: n}})...)
		}
		for _, name := range []string{"X", "a", " "} {
			wantMay(t, false, withTerm(api.Term{Name: name, Val: api.Value{IsSym: true, Sym: s}})...)
		}
	}
	for n := range numbers() {
		wantMay(t, true, withTerm(num(n))...)
		for _, s := range []string{"a", "A", strconv.FormatInt(n, 10), "\x00"} {
			wantMay(t, false, withTerm(api.Term{Val: api.Value{Sym: s, N: n}})...)
			wantMay(t, false, withTerm(api.Term{Name: s, Val: api.Value{N: n}})...)
		}
	}
	long := strings.Repeat("long ", 20000)
	wantMay(t, true, withTerm(sym(long))...)
	for b := range 256 {
		s := string([]byte{byte(b)})
		wantMay(t, true, ruled(on("p", sym(s), sym("a"+s), sym(s+"'"), sym("\\"+s))))
	}
}

func TestP72FieldsThatPlayNoPart(t *testing.T) {
	some := append(vars("X", ""), sym("a"), sym(""), num(1), api.Term{Name: "X"}, api.Term{Val: api.Value{Sym: "a"}})
	for _, kind := range []int{api.Pos, api.Neg} {
		for _, a := range []api.Atom{on("q"), on("q", vars("X")...)} {
			whole := said(kind, a)
			wantMay(t, true, withLiteral(whole)...)
			for _, op := range []string{"=", "!=", "<", "<=", ">", ">=", "==", " "} {
				x := whole
				x.Op = op
				wantMay(t, false, withLiteral(x)...)
			}
			for _, y := range some {
				l, r := whole, whole
				l.L, r.R = y, y
				wantMay(t, false, slices.Concat(withLiteral(l), withLiteral(r))...)
			}
		}
	}
	for _, a := range []api.Atom{on("q"), on("", vars("X")...), on("q", num(0)), on("", num(0)), on("not"), on(" ")} {
		x := compared(vars("X")[0], "<", num(1))
		wantMay(t, true, withLiteral(x)...)
		x.Atom = a
		wantMay(t, false, withLiteral(x)...)
	}
	// No terms are no terms, be they nil or empty.
	x := compared(vars("X")[0], "<", num(1))
	x.Atom.Args = []api.Term{}
	wantMay(t, true, withLiteral(x)...)
	wantMay(t, true, withAtom(api.Atom{Pred: "p", Args: []api.Term{}})...)
	wantMay(t, true, api.Program{Rules: []api.Rule{{Head: on("p"), Body: []api.Literal{}}}})
}

func TestP72OperatorsAndKinds(t *testing.T) {
	// A comparison of zero terms is one of noughts.
	for _, x := range [][2]api.Term{{vars("X")[0], sym("a")}, {}, {sym("not"), num(-5)}, {sym("a"), sym("b")}} {
		for _, op := range []string{"=", "!=", "<", "<=", ">", ">="} {
			wantMay(t, true, withLiteral(compared(x[0], op, x[1]))...)
		}
		for _, op := range []string{"", "==", "=<", "=>", "<>", "!", "<<", ">>", "= ", " =", ":-", "/", ".", ",", "(", ")", "not", "a", "X", "=\x00", "\u2260", "= 1, X ="} {
			wantMay(t, false, withLiteral(compared(x[0], op, x[1]))...)
		}
	}
	for _, kind := range []int{0, 4, 5, 9, -1, -2, -3, math.MaxInt, math.MinInt} {
		wantMay(t, false, withLiteral(api.Literal{Kind: kind})...)
		wantMay(t, false, withLiteral(said(kind, on("q")))...)
		wantMay(t, false, withLiteral(api.Literal{Kind: kind, Op: "=", L: num(1), R: num(1)})...)
	}
	wantMay(t, false, withLiteral(said(api.Cmp, on("q")))...)
	wantMay(t, false, withLiteral(api.Literal{Kind: api.Pos, Op: "=", L: num(1), R: num(1)})...)
	wantMay(t, false, withLiteral(api.Literal{Kind: api.Neg})...)
	wantMay(t, false, withLiteral(api.Literal{Kind: api.Cmp})...)
}

// texts are of programs.
func texts() []string {
	e400 := strings.Repeat("p(X):-q(X),not r.", 400)
	return []string{
		"", "% none", "p.", "p/6.", "p/0.p.p/1.q.", "edge/2.path(X,Y):-edge(X,Z),not bad,path(Z,Y),X!=-3,'a b'<Y. q. edge('x',\n'Y').",
		"p(X, 'A') :- q(X), not r, X != 3.", `p('\n', '\'', '\\', '', 'not', not1).`, "p :- 'not' = 'not', a<b, b>=a, -1<=-1, X>Y, 007 != -0.",
		"p(1,2,3,4,5,6) :- a,b,c,d,not e,f,g,h(A,B,C,D,E,F).", "p('\xff\x00\r', '\u00e9', '%', '.').", "p(-9223372036854775808, 9223372036854775807).", "p :- q(not1), not not1, 'q' = q.",
		"n" + strings.Repeat("n", 31) + "(V" + strings.Repeat("v", 31) + ", '" + strings.Repeat("n", 33) + "').", e400, strings.Repeat("p/3.", 400), e400 + strings.Repeat("p/1.", 400),
	}
}

// wantTextBack parses a text, prints it, and parses that; what is printed may be too long a text.
func wantTextBack(t *testing.T, s string) {
	t.Helper()
	g, _, e := parse.Parse(s)
	if e != api.OK {
		return
	}
	if !printer.May(g) {
		t.Errorf("%.300q may not be", s)
	}
	text := printer.Program(g)
	if len(text) > api.MaxText {
		if again, at, e := parse.Parse(text); len(flat(again)) != 0 || at != 0 || e != api.ErrFull {
			t.Errorf("%.300q, printed as %d bytes: %d, %d", s, len(text), at, e)
		}
		return
	}
	if !back(g) {
		t.Errorf("%.300q, printed %.300q, isn't parsed as it was", s, text)
	}
	// What is printed again is the same text.
	if again, _, _ := parse.Parse(text); printer.Program(again) != text {
		t.Errorf("%.300q, printed %.300q, then %.300q", s, text, printer.Program(again))
	}
}

func TestP73TextsBack(t *testing.T) {
	for _, s := range texts() {
		if _, at, e := parse.Parse(s); e != api.OK {
			t.Errorf("%.300q: %d, %d", s, at, e)
		}
		wantTextBack(t, s)
	}
	// Texts around the longest one: the blanks that are printed make a text too long.
	for n := range 40 {
		s := "p('" + strings.Repeat("x", 65500+n) + "')."
		wantTextBack(t, s)
		wantTextBack(t, "p(1,2,3,'"+strings.Repeat("x", 65490+n)+"').")
	}
}

// TestP73AllShortTexts goes on behind each text that may go on, by each kind of token.
func TestP73AllShortTexts(t *testing.T) {
	words := []string{"p", "not", "'A'", "X", "-1", "(", ")", ",", ".", "/", ":-", "<"}
	programs, level := 0, []string{""}
	for range 10 {
		var longer []string
		for _, s := range level {
			for _, w := range words {
				text := s + w + " "
				_, at, e := parse.Parse(text)
				if e == api.OK {
					programs++
					wantTextBack(t, text)
				}
				if e == api.OK || at == len(text) {
					longer = append(longer, text)
				}
			}
		}
		level = longer
	}
	if programs < 500 {
		t.Error(programs)
	}
}

// maker makes a program of bytes: any field may be anything, but most fields are what they may be.
type maker struct{ left []byte }

func (m *maker) pick(n int) int {
	if len(m.left) == 0 {
		return 0
	}
	b := m.left[0]
	m.left = m.left[1:]
	return int(b) % n
}

// rarely is so in one of 32 cases.
func (m *maker) rarely() bool { return m.pick(32) == 31 }

func (m *maker) text() string {
	l := []string{"p", "q", "X", "Yy_1", "aB", "nott", "", "not", "a b", "\n", "'", "\\", "=", "<=", "!=", "\xff", "_", "x.", strings.Repeat("k", 32), strings.Repeat("k", 33), "K" + strings.Repeat("k", 31), "K" + strings.Repeat("k", 32)}
	return l[m.pick(len(l))] + strings.Repeat("z", max(0, m.pick(40)-36))
}

func (m *maker) number() int64 {
	return []int64{0, 1, -1, 2, 6, 7, 12, math.MaxInt64, math.MinInt64}[m.pick(9)]
}

func (m *maker) pred() string {
	if m.rarely() {
		return m.text()
	}
	return []string{"p", "q", "rS_1", strings.Repeat("k", 32)}[m.pick(4)]
}

func (m *maker) term() api.Term {
	switch m.pick(3) {
	case 0:
		x := vars([]string{"X", "Y", "Zz_1", "K" + strings.Repeat("k", 31)}[m.pick(4)])[0]
		if m.rarely() {
			x.Name = m.text()
		}
		if m.rarely() {
			x.Val = api.Value{IsSym: m.rarely(), Sym: m.text(), N: m.number()}
		}
		return x
	case 1:
		x := sym(m.text())
		if m.rarely() {
			x.Name, x.Val.N = m.text(), m.number()
		}
		return x
	}
	x := num(m.number())
	if m.rarely() {
		x.Name, x.Val.Sym = m.text(), m.text()
	}
	return x
}

func (m *maker) atom() api.Atom {
	a := on(m.pred())
	for range min(m.pick(40), 7) * m.pick(2) {
		a.Args = append(a.Args, m.term())
	}
	if len(a.Args) == 7 && !m.rarely() {
		a.Args = a.Args[:m.pick(7)]
	}
	return a
}

func (m *maker) literal() api.Literal {
	if m.rarely() {
		return api.Literal{Kind: m.pick(5), Atom: m.atom(), Op: m.text(), L: m.term(), R: m.term()}
	}
	switch m.pick(3) {
	case 0:
		return said(api.Pos, m.atom())
	case 1:
		return said(api.Neg, m.atom())
	}
	return compared(m.term(), []string{"=", "!=", "<", "<=", ">", ">="}[m.pick(6)], m.term())
}

func (m *maker) program() api.Program {
	var g api.Program
	for range m.pick(3) {
		d := api.Decl{Pred: m.pred(), Arity: m.pick(7)}
		if m.rarely() {
			d.Arity = int(m.number())
		}
		g.Decls = append(g.Decls, d)
	}
	for len(m.left) > 0 {
		r := api.Rule{Head: m.atom()}
		for range min(m.pick(30), 9) * m.pick(2) {
			r.Body = append(r.Body, m.literal())
		}
		g.Rules = append(g.Rules, r)
	}
	return g
}

// copied is a program that shares nothing with it.
func copied(g api.Program) api.Program {
	g.Decls, g.Rules = slices.Clone(g.Decls), slices.Clone(g.Rules)
	for i := range g.Rules {
		r := &g.Rules[i]
		r.Head.Args, r.Body = slices.Clone(r.Head.Args), slices.Clone(r.Body)
		for k := range r.Body {
			r.Body[k].Atom.Args = slices.Clone(r.Body[k].Atom.Args)
		}
	}
	return g
}

// wantMadeBack asks of any program that it may be just if it is parsed as it was; it stays as it is.
func wantMadeBack(t *testing.T, g api.Program) bool {
	t.Helper()
	kept := copied(g)
	text, may := printer.Program(g), printer.May(g)
	if !slices.Equal(flat(kept), flat(g)) {
		t.Errorf("%+v was changed: %+v", kept, g)
	}
	if len(text) <= api.MaxText && back(g) != may {
		t.Errorf("May of %q is %t: %+v", text, may, g)
	}
	return may
}

func TestP73ProgramsBack(t *testing.T) {
	state, may := uint32(1), 0
	for n := range 30000 {
		bytes := make([]byte, n%150)
		for i := range bytes {
			state = state*1664525 + 1013904223
			bytes[i] = byte(state >> 24)
		}
		if wantMadeBack(t, (&maker{bytes}).program()) {
			may++
		}
	}
	if may < 3000 || may > 27000 {
		t.Errorf("%d of 30000 may be", may)
	}
}

func FuzzPrint(f *testing.F) {
	for _, s := range texts() {
		f.Add([]byte(s), s)
	}
	f.Add([]byte("\x01\x00\x01\x00"), "p :- q, not r(X).")
	f.Fuzz(func(t *testing.T, bytes []byte, s string) {
		wantMadeBack(t, (&maker{bytes}).program())
		wantTextBack(t, s)
	})
}

func ExampleRule() {
	g, _, _ := parse.Parse("p(X,'A'):-q(X),not r,X!=3.")
	fmt.Println(printer.Rule(g.Rules[0]), printer.May(g))
	// Output:
	// p(X, 'A') :- q(X), not r, X != 3. true
}
