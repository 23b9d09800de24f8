package value_test

import (
	"cmp"
	"math"
	"strconv"
	"strings"
	"testing"

	"lambrequin/api"
	"lambrequin/value"
)

// rising holds unlike values, each below the next one.
func rising() []api.Value {
	var l []api.Value
	for _, n := range []int64{math.MinInt64, math.MinInt64 + 1, -10, -9, -1, 0, 1, 9, 10, math.MaxInt64 - 1, math.MaxInt64} {
		l = append(l, value.Int(n))
	}
	for _, s := range []string{"", "\x00", "\x00\x00", "\n", "'", "-1", "0", "10", "9", "A", "Z", "\\", "_", "a", "a\x00", "a b", "aB", "a_", "aa", "ab", "b", "not", "z", "\x7f", "\x80", "\u00e9", "\ufffd", "\U0001f600", "\xff", "\xff\x00"} {
		l = append(l, value.Sym(s))
	}
	return l
}

// disguises are values that are the same as v, with the field that plays no part holding all kinds of things.
func disguises(v api.Value) []api.Value {
	l := []api.Value{v}
	if v.IsSym {
		for _, n := range []int64{math.MinInt64, -1, 1, math.MaxInt64} {
			l = append(l, api.Value{IsSym: true, Sym: v.Sym, N: n})
		}
		return l
	}
	for _, s := range []string{"\x00", "a", "not", "\xff", "7"} {
		l = append(l, api.Value{Sym: s, N: v.N})
	}
	return l
}

func TestP11SymAndIntHaveNoOtherFields(t *testing.T) {
	for _, s := range []string{"", "a", "A b", "not", "\x00\xff\n", strings.Repeat("x", 100)} {
		if v := value.Sym(s); v != (api.Value{IsSym: true, Sym: s}) {
			t.Errorf("Sym(%q) = %+v", s, v)
		}
	}
	for _, n := range []int64{math.MinInt64, -1, 0, 1, math.MaxInt64} {
		if v := value.Int(n); v != (api.Value{N: n}) {
			t.Errorf("Int(%d) = %+v", n, v)
		}
	}
}

func TestP11CompareAndSame(t *testing.T) {
	l := rising()
	for i, x := range l {
		for j, y := range l {
			for _, a := range disguises(x) {
				for _, b := range disguises(y) {
					if got, want := value.Compare(a, b), cmp.Compare(i, j); got != want {
						t.Fatalf("Compare(%+v, %+v) = %d, want %d", a, b, got, want)
					}
					if got, want := value.Same(a, b), i == j; got != want {
						t.Fatalf("Same(%+v, %+v) = %t", a, b, got)
					}
				}
			}
		}
	}
}

func TestP11CompareAnswersOneStepOnly(t *testing.T) {
	far := [][2]api.Value{
		{value.Int(math.MinInt64), value.Int(math.MaxInt64)},
		{value.Int(-5), value.Int(5)},
		{value.Sym("a"), value.Sym("azzzz")},
		{value.Sym("\x00"), value.Sym("\xff")},
		{value.Int(math.MaxInt64), value.Sym("")},
		{api.Value{N: 3, Sym: "z"}, api.Value{IsSym: true, Sym: "a", N: 2}},
	}
	for _, p := range far {
		if c := value.Compare(p[0], p[1]); c != -1 {
			t.Errorf("Compare(%+v, %+v) = %d", p[0], p[1], c)
		}
		if c := value.Compare(p[1], p[0]); c != 1 {
			t.Errorf("Compare(%+v, %+v) = %d", p[1], p[0], c)
		}
	}
}

func TestP11Holds(t *testing.T) {
	ops := []struct {
		op                  string
		below, same, behind bool
	}{
		{"=", false, true, false},
		{"!=", true, false, true},
		{"<", true, false, false},
		{"<=", true, true, false},
		{">", false, false, true},
		{">=", false, true, true},
	}
	l := rising()
	for _, o := range ops {
		for i, x := range l {
			for j, y := range l {
				want := [3]bool{o.below, o.same, o.behind}[cmp.Compare(i, j)+1]
				for _, a := range disguises(x) {
					b := disguises(y)[len(disguises(y))-1]
					if is, ok := value.Holds(o.op, a, b); is != want || !ok {
						t.Fatalf("Holds(%q, %+v, %+v) = %t, %t, want %t, true", o.op, a, b, is, ok, want)
					}
				}
			}
		}
	}
}

func TestP11HoldsOfNoOperator(t *testing.T) {
	known := map[string]int{"=": 1, "!=": 1, "<": 1, "<=": 1, ">": 1, ">=": 1}
	wrong := []string{"", " ", "==", "=<", "=>", "<>", "!", "!==", "<=>", "<<", "= ", " =", "<\x00", "not", "\xff", "≤", "≠", "＝", strings.Repeat("=", 1000)}
	for b := range 256 {
		if s := string([]byte{byte(b)}); known[s] == 0 {
			wrong = append(wrong, s)
		}
	}
	pairs := [][2]api.Value{{value.Int(1), value.Int(1)}, {value.Int(1), value.Int(2)}, {value.Sym("b"), value.Sym("a")}, {{}, {}}}
	for _, op := range wrong {
		for _, p := range pairs {
			if is, ok := value.Holds(op, p[0], p[1]); is || ok {
				t.Errorf("Holds(%q, %+v, %+v) = %t, %t", op, p[0], p[1], is, ok)
			}
		}
	}
}

const (
	firstBytes = "abcdefghijklmnopqrstuvwxyz"
	laterBytes = firstBytes + "ABCDEFGHIJKLMNOPQRSTUVWXYZ0123456789_"
)

func TestP12PlainByEachByte(t *testing.T) {
	for b := range 256 {
		one := string([]byte{byte(b)})
		if got, want := value.Plain(one), strings.Contains(firstBytes, one); got != want {
			t.Errorf("Plain(%q) = %t", one, got)
		}
		if got, want := value.Plain(one+"a"), strings.Contains(firstBytes, one); got != want {
			t.Errorf("Plain(%q) = %t", one+"a", got)
		}
		for _, s := range []string{"a" + one, "z" + one + "9", "aB_0" + one} {
			if got, want := value.Plain(s), strings.Contains(laterBytes, one); got != want {
				t.Errorf("Plain(%q) = %t", s, got)
			}
		}
	}
}

func TestP12PlainOfWords(t *testing.T) {
	for _, s := range []string{"a", "no", "nots", "not_", "not1", "noT", "nOt", "knot", "notnot", "aB_1", "a__", "z9Z", strings.Repeat("x", 32), strings.Repeat("x", 33), strings.Repeat("x", 5000)} {
		if !value.Plain(s) {
			t.Errorf("Plain(%q) = false", s)
		}
	}
	for _, s := range []string{"", "not", "Not", "NOT", "_a", "1a", "A", " a", "a ", "not ", "a\n", "a\x00", "a-b", "a.b", "é", "aé", "ａ", "aａ", "a１", "a\u0300", "aß", "a\ufffd", "a\xff", "\xe9", "a\xc3", strings.Repeat("x", 5000) + "-"} {
		if value.Plain(s) {
			t.Errorf("Plain(%q) = true", s)
		}
	}
}

func TestP12TextOfNumbers(t *testing.T) {
	for n, want := range map[int64]string{0: "0", 7: "7", 10: "10", -1: "-1", -10: "-10", 1234567890: "1234567890", math.MaxInt64: "9223372036854775807", math.MinInt64: "-9223372036854775808"} {
		for _, v := range disguises(value.Int(n)) {
			if got := value.Text(v); got != want {
				t.Errorf("Text(%+v) = %q, want %q", v, got, want)
			}
		}
	}
}

func TestP12TextOfSymbols(t *testing.T) {
	x32, x33 := strings.Repeat("x", 32), strings.Repeat("x", 33)
	texts := []struct{ sym, want string }{
		{"a", "a"}, {"aB_1", "aB_1"}, {"nots", "nots"}, {"n", "n"},
		{x32, x32}, {x33, "'" + x33 + "'"}, {x32[1:] + "-", "'" + x32[1:] + "-'"},
		{"", "''"}, {"A", "'A'"}, {"not", "'not'"}, {"_", "'_'"}, {"12", "'12'"}, {"-5", "'-5'"},
		{"a b", "'a b'"}, {"\n", `'\n'`}, {"\\n", `'\\n'`}, {"\\", `'\\'`}, {"'", `'\''`}, {"''", `'\'\''`},
		{"\\'", `'\\\''`}, {"it's", `'it\'s'`}, {"a\nb\n", `'a\nb\n'`},
		{"\x00\t\r\"", "'\x00\t\r\"'"}, {"é", "'é'"}, {"\xff", "'\xff'"}, {"a\xc3", "'a\xc3'"}, {"\xe2\x80", "'\xe2\x80'"}, {"\ufffd", "'\ufffd'"},
	}
	for _, c := range texts {
		for _, v := range disguises(value.Sym(c.sym)) {
			if got := value.Text(v); got != c.want {
				t.Errorf("Text(%+v) = %q, want %q", v, got, c.want)
			}
		}
	}
}

func TestP12TextOfEachByte(t *testing.T) {
	for b := range 256 {
		s := "-" + string([]byte{byte(b)}) + "-"
		want := "'" + s + "'"
		switch byte(b) {
		case 10:
			want = `'-\n-'`
		case '\\', '\'':
			want = `'-\` + string([]byte{byte(b)}) + `-'`
		}
		if got := value.Text(value.Sym(s)); got != want {
			t.Errorf("Text of %q: %q, want %q", s, got, want)
		}
	}
}

func TestP12TextOfALongSymbol(t *testing.T) {
	const many = 100000
	if got, want := value.Text(value.Sym(strings.Repeat("\n'\\x", many))), "'"+strings.Repeat(`\n\'\\x`, many)+"'"; got != want {
		t.Error("the text of a long symbol is another")
	}
}

// words are all texts of up to most of these bytes.
func words(bytes string, most int) []string {
	all, last := []string{""}, []string{""}
	for range most {
		var next []string
		for _, s := range last {
			for i := range len(bytes) {
				next = append(next, s+bytes[i:i+1])
			}
		}
		all, last = append(all, next...), next
	}
	return all
}

func TestP13OneOrder(t *testing.T) {
	var l []api.Value
	for _, v := range rising() {
		l = append(l, disguises(v)[1], v)
	}
	for _, a := range l {
		if value.Compare(a, a) != 0 {
			t.Fatalf("%+v isn't the same as itself", a)
		}
		for _, b := range l {
			ab := value.Compare(a, b)
			if value.Compare(b, a) != -ab || value.Same(a, b) != (ab == 0) {
				t.Fatalf("%+v and %+v have no one order", a, b)
			}
			for _, c := range l {
				bc := value.Compare(b, c)
				if ab <= 0 && bc <= 0 && value.Compare(a, c) != min(ab, bc) {
					t.Fatalf("%+v, %+v, %+v are in no one order", a, b, c)
				}
			}
		}
	}
}

func TestP13OneTextJustOfTheSame(t *testing.T) {
	var l []api.Value
	for _, s := range words("an'\\\n1-A\xff", 5) {
		l = append(l, value.Sym(s))
	}
	for n := int64(-1200); n <= 1200; n++ {
		l = append(l, value.Int(n))
		l = append(l, value.Sym(strconv.FormatInt(n, 10)))
	}
	for n := 1; n <= 40; n++ {
		l = append(l, value.Sym(strings.Repeat("x", n)), value.Sym("'"+strings.Repeat("x", n)+"'"))
	}
	l = append(l, rising()...)
	seen := map[string]api.Value{}
	for _, v := range l {
		for _, d := range disguises(v) {
			s := value.Text(d)
			if old, ok := seen[s]; ok && !value.Same(old, v) {
				t.Fatalf("%+v and %+v have the text %q", old, v, s)
			}
			seen[s] = v
		}
	}
	for _, v := range l {
		for _, d := range disguises(v) {
			if value.Text(d) != value.Text(v) {
				t.Fatalf("%+v and %+v are the same, with unlike texts", d, v)
			}
		}
	}
}

func TestExamples(t *testing.T) {
	if value.Compare(value.Int(3), value.Sym("a")) != -1 || value.Compare(value.Sym("a"), value.Sym("b")) != -1 {
		t.Error("3 is below a, a below b")
	}
	if s := value.Text(value.Sym("A")); s != "'A'" {
		t.Errorf("the text of A is %q", s)
	}
}

// FuzzValue holds the promises against values of any fields.
func FuzzValue(f *testing.F) {
	f.Add(true, "a", int64(0), false, "b", int64(1), "<")
	f.Add(true, "\xff\n'\\", int64(-1), true, "not", int64(1), ">=")
	f.Add(false, "", int64(math.MinInt64), false, "x", int64(math.MaxInt64), "=<")
	f.Fuzz(func(t *testing.T, aSym bool, aText string, aN int64, bSym bool, bText string, bN int64, op string) {
		a, b := api.Value{IsSym: aSym, Sym: aText, N: aN}, api.Value{IsSym: bSym, Sym: bText, N: bN}
		c := value.Compare(a, b)
		if c < -1 || c > 1 || value.Compare(b, a) != -c || value.Same(a, b) != (c == 0) {
			t.Errorf("Compare(%+v, %+v) = %d", a, b, c)
		}
		if (value.Text(a) == value.Text(b)) != (c == 0) {
			t.Errorf("Text of %+v and %+v", a, b)
		}
		if is, ok := value.Holds(op, a, b); is && !ok {
			t.Errorf("Holds(%q, %+v, %+v) = %t, %t", op, a, b, is, ok)
		}
	})
}
