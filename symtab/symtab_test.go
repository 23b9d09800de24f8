package symtab_test

import (
	"math"
	"strconv"
	"strings"
	"testing"

	"lambrequin/api"
	"lambrequin/symtab"
	"lambrequin/value"
)

// unlike holds values no two of which are the same, with such as differ only in their kind, in one byte, or in case.
func unlike() []api.Value {
	var l []api.Value
	for _, n := range []int64{0, 1, -1, 5, -5, 10, math.MaxInt64, math.MinInt64, math.MaxInt64 - 1, 1 << 32, 1 << 53, 1<<53 + 1} {
		l = append(l, value.Int(n))
	}
	for _, s := range []string{"", "0", "1", "-1", "5", "a", "A", "aa", "a ", " a", "a\x00", "\x00", "\n", "'a'", "not", "\u00e9", "e\u0301", "\xe9", "\xff", "\ufffd", strings.Repeat("x", 32), strings.Repeat("x", 33), strings.Repeat("x", 70000), strings.Repeat("x", 70000) + "y"} {
		l = append(l, value.Sym(s))
	}
	return l
}

// disguises are values that are the same as v, with the field that plays no part holding other things.
func disguises(v api.Value) []api.Value {
	if v.IsSym {
		return []api.Value{{IsSym: true, Sym: v.Sym, N: 1}, {IsSym: true, Sym: v.Sym, N: -1}, {IsSym: true, Sym: v.Sym, N: math.MinInt64}, {IsSym: true, Sym: v.Sym, N: math.MaxInt64}}
	}
	return []api.Value{{N: v.N, Sym: "a"}, {N: v.N, Sym: "5"}, {N: v.N, Sym: "\xff"}, {N: v.N, Sym: strings.Repeat("x", 100)}}
}

func filled() (*symtab.Table, []api.Value) {
	s, l := symtab.New(), unlike()
	for _, v := range l {
		s.Put(v)
	}
	return s, l
}

func TestP21PutTellsAsManyAsWerePut(t *testing.T) {
	s := symtab.New()
	for i, v := range unlike() {
		if n := s.Len(); n != i {
			t.Fatalf("Len() = %d, want %d", n, i)
		}
		if n := s.Put(v); n != i {
			t.Fatalf("Put(%+v) = %d, want %d", v, n, i)
		}
	}
}

func TestP21PutAgainTellsTheSameNumber(t *testing.T) {
	s := symtab.New()
	for i, v := range unlike() {
		s.Put(v)
		for j, w := range unlike()[:i+1] {
			if n := s.Put(w); n != j {
				t.Fatalf("Put(%+v) again = %d, want %d", w, n, j)
			}
		}
		if n := s.Len(); n != i+1 {
			t.Fatalf("Len() = %d, want %d", n, i+1)
		}
	}
}

func TestP21FieldsThatPlayNoPart(t *testing.T) {
	s, l := filled()
	for i, v := range l {
		for _, d := range disguises(v) {
			if n := s.Put(d); n != i {
				t.Fatalf("Put(%+v) = %d, want %d", d, n, i)
			}
			if n, ok := s.Find(d); n != i || !ok {
				t.Fatalf("Find(%+v) = %d, %t, want %d, true", d, n, ok, i)
			}
		}
	}
	if n := s.Len(); n != len(l) {
		t.Errorf("Len() = %d, want %d", n, len(l))
	}
}

func TestP21AtHasNoOtherFields(t *testing.T) {
	for _, v := range unlike() {
		for _, d := range disguises(v) {
			s := symtab.New()
			s.Put(d)
			if got, ok := s.At(0); got != v || !ok {
				t.Fatalf("At(0) behind Put(%+v) = %+v, %t", d, got, ok)
			}
			if n, ok := s.Find(v); n != 0 || !ok {
				t.Fatalf("Find(%+v) behind Put(%+v) = %d, %t", v, d, n, ok)
			}
			s.Put(disguises(v)[0])
			if got, ok := s.At(0); got != v || !ok || s.Len() != 1 {
				t.Fatalf("At(0) behind a second Put = %+v, %t, of %d", got, ok, s.Len())
			}
		}
	}
}

func TestP21FindOfWhatWasNotPut(t *testing.T) {
	l := unlike()
	s := symtab.New()
	for i, v := range l {
		for _, w := range append([]api.Value{v}, disguises(v)...) {
			if n, ok := s.Find(w); n != 0 || ok {
				t.Fatalf("Find(%+v) ahead of Put = %d, %t", w, n, ok)
			}
		}
		if n := s.Len(); n != i {
			t.Fatalf("Find put something: Len() = %d, want %d", n, i)
		}
		s.Put(v)
	}
}

func TestP21ZeroValueIsANumber(t *testing.T) {
	s := symtab.New()
	if n := s.Put(value.Sym("")); n != 0 {
		t.Errorf("the empty symbol has %d", n)
	}
	if n, ok := s.Find(api.Value{}); n != 0 || ok {
		t.Errorf("0 was not put: %d, %t", n, ok)
	}
	if n := s.Put(api.Value{}); n != 1 {
		t.Errorf("0 has %d", n)
	}
	if v, ok := s.At(1); v != (api.Value{}) || !ok {
		t.Errorf("At(1) = %+v, %t", v, ok)
	}
}

func TestP21AtOfNumbersThatAreNone(t *testing.T) {
	full, l := filled()
	none := []int{-1, -2, len(l), len(l) + 1, 2 * len(l), math.MaxInt32, math.MinInt32, math.MaxInt, math.MinInt, -len(l)}
	for _, n := range none {
		if v, ok := full.At(n); v != (api.Value{}) || ok {
			t.Errorf("At(%d) = %+v, %t", n, v, ok)
		}
	}
	for _, n := range append(none, 0, 1) {
		if v, ok := symtab.New().At(n); v != (api.Value{}) || ok {
			t.Errorf("At(%d) of an empty table = %+v, %t", n, v, ok)
		}
	}
	if n := full.Len(); n != len(l) {
		t.Errorf("At put something: Len() = %d, want %d", n, len(l))
	}
}

func TestP21NilTable(t *testing.T) {
	var s *symtab.Table
	for _, v := range unlike() {
		if n := s.Put(v); n != 0 {
			t.Errorf("Put(%+v) = %d", v, n)
		}
		if n, ok := s.Find(v); n != 0 || ok {
			t.Errorf("Find(%+v) = %d, %t", v, n, ok)
		}
	}
	for _, n := range []int{-1, 0, 1, math.MaxInt, math.MinInt} {
		if v, ok := s.At(n); v != (api.Value{}) || ok {
			t.Errorf("At(%d) = %+v, %t", n, v, ok)
		}
	}
	if n := s.Len(); n != 0 {
		t.Errorf("Len() = %d", n)
	}
}

func TestP21TableThatNewDidNotMake(t *testing.T) {
	var s symtab.Table
	if n, ok := s.Find(value.Int(0)); n != 0 || ok || s.Len() != 0 {
		t.Errorf("an empty table finds %d, %t", n, ok)
	}
	if v, ok := s.At(0); v != (api.Value{}) || ok {
		t.Errorf("At(0) = %+v, %t", v, ok)
	}
	if a, b, c := s.Put(value.Sym("a")), s.Put(value.Sym("b")), s.Put(value.Sym("a")); a != 0 || b != 1 || c != 0 {
		t.Errorf("a, b, a: %d, %d, %d", a, b, c)
	}
}

func TestP21TablesShareNothing(t *testing.T) {
	a, b := symtab.New(), symtab.New()
	a.Put(value.Sym("x"))
	a.Put(value.Sym("y"))
	if n, ok := b.Find(value.Sym("y")); n != 0 || ok || b.Len() != 0 {
		t.Errorf("another table finds y: %d, %t", n, ok)
	}
	if n := b.Put(value.Sym("y")); n != 0 {
		t.Errorf("y is %d in another table", n)
	}
	if n, ok := a.Find(value.Sym("y")); n != 1 || !ok || a.Len() != 2 {
		t.Errorf("y is %d, %t in the first one", n, ok)
	}
}

func TestP22UnlikeValuesHaveUnlikeNumbers(t *testing.T) {
	s, l := filled()
	seen := map[int]api.Value{}
	for _, v := range l {
		n, ok := s.Find(v)
		if old, there := seen[n]; there || !ok {
			t.Fatalf("%+v and %+v have the number %d, %t", v, old, n, ok)
		}
		seen[n] = v
	}
}

func TestP22EachNumberBelowLenHasAValue(t *testing.T) {
	s, l := filled()
	if n := s.Len(); n != len(l) {
		t.Fatalf("Len() = %d, want %d", n, len(l))
	}
	for n := range s.Len() {
		v, ok := s.At(n)
		if v != l[n] || !ok {
			t.Fatalf("At(%d) = %+v, %t, want %+v", n, v, ok, l[n])
		}
		if back, ok := s.Find(v); back != n || !ok {
			t.Fatalf("Find(At(%d)) = %d, %t", n, back, ok)
		}
	}
}

func TestP22ManyValues(t *testing.T) {
	const many = 20000
	s := symtab.New()
	for i := range many {
		if n := s.Put(value.Int(int64(i))); n != 2*i {
			t.Fatalf("the number %d is %d", i, n)
		}
		if n := s.Put(value.Sym(strconv.Itoa(i))); n != 2*i+1 {
			t.Fatalf("the symbol %d is %d", i, n)
		}
	}
	for i := range many {
		if v, ok := s.At(2 * i); v != value.Int(int64(i)) || !ok {
			t.Fatalf("At(%d) = %+v, %t", 2*i, v, ok)
		}
		if n, ok := s.Find(value.Sym(strconv.Itoa(i))); n != 2*i+1 || !ok {
			t.Fatalf("the symbol %d is found as %d, %t", i, n, ok)
		}
	}
	if n := s.Len(); n != 2*many {
		t.Errorf("Len() = %d", n)
	}
}

func TestExample(t *testing.T) {
	s := symtab.New()
	for i, c := range []struct {
		sym  string
		want int
	}{{"a", 0}, {"b", 1}, {"a", 0}} {
		if n := s.Put(value.Sym(c.sym)); n != c.want {
			t.Errorf("%d: Put %s = %d, want %d", i, c.sym, n, c.want)
		}
	}
}

// FuzzTable holds a table against a plain list that is searched by value.Same.
func FuzzTable(f *testing.F) {
	f.Add("aba", int64(3))
	f.Add("\x00\xff\x001a", int64(-1))
	f.Fuzz(func(t *testing.T, text string, stray int64) {
		s := symtab.New()
		var list []api.Value
		for i := range len(text) {
			v := api.Value{IsSym: text[i]%2 == 0, Sym: text[i : i+1], N: stray + int64(text[i]/4)}
			want := len(list)
			for j, w := range list {
				if value.Same(v, w) {
					want = j
				}
			}
			if n, ok := s.Find(v); ok != (want < len(list)) || ok && n != want {
				t.Fatalf("Find(%+v) = %d, %t", v, n, ok)
			}
			if want == len(list) {
				list = append(list, v)
			}
			if n := s.Put(v); n != want || s.Len() != len(list) {
				t.Fatalf("Put(%+v) = %d, want %d; Len() = %d, want %d", v, n, want, s.Len(), len(list))
			}
		}
	})
}
