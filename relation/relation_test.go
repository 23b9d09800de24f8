package relation_test

import (
	"math"
	"slices"
	"strconv"
	"testing"

	"lambrequin/api"
	"lambrequin/relation"
	"lambrequin/tuple"
	"lambrequin/value"
)

func a() api.Value { return value.Sym("a") }
func b() api.Value { return value.Sym("b") }
func c() api.Value { return value.Sym("c") }

func n(i int64) api.Value { return value.Int(i) }

// few holds values of which rows are made: unlike ones whose texts, or zero fields, are easily taken for each other.
func few() []api.Value {
	return []api.Value{n(math.MinInt64), n(0), n(1), value.Sym(""), value.Sym("1"), a()}
}

// rowsOf are all rows of some values.
func rowsOf(arity int, vs []api.Value) [][]api.Value {
	all := [][]api.Value{{}}
	for range arity {
		var next [][]api.Value
		for _, row := range all {
			for _, v := range vs {
				next = append(next, append(slices.Clone(row), v))
			}
		}
		all = next
	}
	return all
}

// disguise is a row that is alike, with the fields that play no part holding other things.
func disguise(row []api.Value) []api.Value {
	var l []api.Value
	for _, v := range row {
		if v.IsSym {
			l = append(l, api.Value{IsSym: true, Sym: v.Sym, N: 7})
		} else {
			l = append(l, api.Value{N: v.N, Sym: "z"})
		}
	}
	return l
}

// same holds rows against each other field by field, so that stray fields are seen, too.
func same(got, want [][]api.Value) bool {
	return slices.EqualFunc(got, want, func(x, y []api.Value) bool { return slices.Equal(x, y) })
}

func rows(l ...[]api.Value) [][]api.Value { return l }

func row(vs ...api.Value) []api.Value { return vs }

func wantRows(t *testing.T, what string, got, want [][]api.Value) {
	t.Helper()
	if !same(got, want) {
		t.Errorf("%s: %+v, want %+v", what, got, want)
	}
}

func wantMatch(t *testing.T, r *relation.Rel, cols []int, vals []api.Value, only bool, want ...[]api.Value) {
	t.Helper()
	got, e := r.Match(cols, vals, only)
	if e != api.OK || !same(got, want) {
		t.Errorf("Match(%v, %+v, %v): %+v, %d, want %+v", cols, vals, only, got, e, want)
	}
}

func wantAdd(t *testing.T, r *relation.Rel, given []api.Value, is bool, errno api.Errno) {
	t.Helper()
	if got, e := r.Add(given); got != is || e != errno {
		t.Errorf("Add(%+v): %v, %d, want %v, %d", given, got, e, is, errno)
	}
}

// aged has one row of each generation: a, 1 is FULL, a, 2 DELTA, and a, 3 NEW.
func aged(t *testing.T) *relation.Rel {
	t.Helper()
	r := relation.New(2)
	wantAdd(t, r, row(a(), n(1)), true, api.OK)
	r.Turn()
	wantAdd(t, r, row(a(), n(2)), true, api.OK)
	r.Turn()
	wantAdd(t, r, row(a(), n(3)), true, api.OK)
	return r
}

func TestP41NewHasNoRows(t *testing.T) {
	for arity := 0; arity <= api.MaxArity; arity++ {
		r := relation.New(arity)
		if r == nil {
			t.Fatalf("New(%d) is nil", arity)
		}
		if r.Len() != 0 || len(r.All()) != 0 || len(r.Delta()) != 0 || r.Turn() {
			t.Errorf("New(%d) has rows: %+v", arity, r.All())
		}
		for _, t1 := range rowsOf(arity, []api.Value{{}}) {
			if r.Has(t1) {
				t.Errorf("New(%d) has %+v", arity, t1)
			}
		}
		wantMatch(t, r, nil, nil, false)
		wantMatch(t, r, nil, nil, true)
	}
}

func TestP41NewOfAritiesThatMayNotBe(t *testing.T) {
	for _, arity := range []int{-1, -2, 7, 8, 100, math.MinInt, math.MaxInt} {
		if relation.New(arity) != nil {
			t.Errorf("New(%d) is not nil", arity)
		}
	}
}

func TestP41RowsOfEachArity(t *testing.T) {
	for arity := 0; arity <= api.MaxArity; arity++ {
		r := relation.New(arity)
		all := rowsOf(arity, []api.Value{a(), n(0), n(1)})
		for i, given := range all {
			if r.Has(given) {
				t.Fatalf("arity %d: %+v is there ahead of Add", arity, given)
			}
			wantAdd(t, r, given, true, api.OK)
			if !r.Has(given) || r.Len() != i+1 {
				t.Fatalf("arity %d: %+v is not there behind Add, of %d rows", arity, given, r.Len())
			}
			wantAdd(t, r, given, false, api.OK)
		}
		if r.Len() != len(all) {
			t.Errorf("arity %d: %d rows, want %d", arity, r.Len(), len(all))
		}
		wantRows(t, "All of arity "+strconv.Itoa(arity), r.All(), tuple.Sort(all))
	}
}

func TestP41RowsOfAnotherArity(t *testing.T) {
	for arity := 0; arity <= api.MaxArity; arity++ {
		r := relation.New(arity)
		zeros := make([]api.Value, arity)
		wantAdd(t, r, zeros, true, api.OK)
		for other := 0; other <= api.MaxArity+2; other++ {
			if other == arity {
				continue
			}
			given := make([]api.Value, other)
			wantAdd(t, r, given, false, api.ErrArg)
			if r.Has(given) {
				t.Errorf("a relation of arity %d has a row of arity %d", arity, other)
			}
		}
		if r.Len() != 1 {
			t.Errorf("arity %d: %d rows, want 1", arity, r.Len())
		}
		r.Turn()
		wantRows(t, "Delta", r.Delta(), rows(zeros))
	}
}

func TestP41RowThatIsRefusedLeavesNothing(t *testing.T) {
	r := relation.New(1)
	wantAdd(t, r, row(a(), b()), false, api.ErrArg)
	if r.Has(row(a())) || r.Has(row(b())) || r.Len() != 0 || r.Turn() {
		t.Errorf("a refused row is there: %+v", r.All())
	}
	wantMatch(t, r, []int{0}, row(a()), false)
	wantAdd(t, r, row(a()), true, api.OK)
}

func TestP41RowsAlikeByWhatPlaysNoPart(t *testing.T) {
	for arity := 0; arity <= 3; arity++ {
		plain, hidden := relation.New(arity), relation.New(arity)
		all := rowsOf(arity, few())
		for _, given := range all {
			wantAdd(t, plain, given, true, api.OK)
			wantAdd(t, plain, disguise(given), false, api.OK)
			wantAdd(t, hidden, disguise(given), true, api.OK)
			wantAdd(t, hidden, given, false, api.OK)
			if !plain.Has(disguise(given)) || !hidden.Has(given) {
				t.Fatalf("%+v is not there in another guise", given)
			}
		}
		want := tuple.Sort(all)
		wantRows(t, "All", plain.All(), want)
		wantRows(t, "All of disguised rows", hidden.All(), want)
		hidden.Turn()
		wantRows(t, "Delta of disguised rows", hidden.Delta(), want)
		wantMatch(t, hidden, nil, nil, false, want...)
	}
}

func TestP41UnlikeRowsOfTheSameValues(t *testing.T) {
	r := relation.New(2)
	wantAdd(t, r, row(a(), b()), true, api.OK)
	wantAdd(t, r, row(b(), b()), true, api.OK)
	if r.Has(row(b(), a())) || r.Has(row(a(), a())) {
		t.Error("a row is there by values of other rows")
	}
	wantAdd(t, r, row(b(), a()), true, api.OK)
	wantAdd(t, r, row(a(), a()), true, api.OK)
	if r.Len() != 4 {
		t.Errorf("%d rows, want 4", r.Len())
	}
}

func TestP41SymbolsAndNumbersAreUnlike(t *testing.T) {
	r := relation.New(1)
	wantAdd(t, r, row(value.Sym("1")), true, api.OK)
	wantAdd(t, r, row(n(1)), true, api.OK)
	wantAdd(t, r, row(value.Sym("")), true, api.OK)
	wantAdd(t, r, row(n(0)), true, api.OK)
	wantRows(t, "All", r.All(), rows(row(n(0)), row(n(1)), row(value.Sym("")), row(value.Sym("1"))))
}

func TestP41AddAgainInEachGeneration(t *testing.T) {
	r := aged(t)
	for _, i := range []int64{1, 2, 3} {
		wantAdd(t, r, row(a(), n(i)), false, api.OK)
		wantAdd(t, r, disguise(row(a(), n(i))), false, api.OK)
		if !r.Has(row(a(), n(i))) {
			t.Errorf("a, %d is not there", i)
		}
	}
	if r.Len() != 3 {
		t.Errorf("%d rows, want 3", r.Len())
	}
	wantRows(t, "Delta", r.Delta(), rows(row(a(), n(2))))
	if !r.Turn() {
		t.Error("Turn: a, 3 was NEW")
	}
	wantRows(t, "Delta behind Turn", r.Delta(), rows(row(a(), n(3))))
	if r.Turn() {
		t.Errorf("a row that was added again got young: %+v", r.Delta())
	}
}

func TestP41TurnWithNothingNew(t *testing.T) {
	r := relation.New(1)
	for range 3 {
		if r.Turn() {
			t.Error("Turn of no rows")
		}
	}
	wantAdd(t, r, row(a()), true, api.OK)
	if !r.Turn() {
		t.Error("Turn with a NEW row")
	}
	for range 3 {
		if r.Turn() || len(r.Delta()) != 0 {
			t.Errorf("Turn with nothing NEW: %+v", r.Delta())
		}
		if !r.Has(row(a())) || r.Len() != 1 {
			t.Error("a FULL row is lost")
		}
		wantMatch(t, r, nil, nil, false, row(a()))
		wantMatch(t, r, nil, nil, true)
	}
	wantAdd(t, r, row(b()), true, api.OK)
	if !r.Turn() {
		t.Error("Turn with a NEW row behind empty turns")
	}
	wantRows(t, "Delta", r.Delta(), rows(row(b())))
}

func TestP41LenIsOfAllGenerations(t *testing.T) {
	r := aged(t)
	for range 4 {
		if r.Len() != 3 || len(r.All()) != 3 {
			t.Errorf("Len: %d, All: %+v", r.Len(), r.All())
		}
		r.Turn()
	}
}

func TestP41ArityNone(t *testing.T) {
	r := relation.New(0)
	if r.Has(nil) || r.Has(row()) {
		t.Error("the row without values is there ahead of Add")
	}
	wantAdd(t, r, nil, true, api.OK)
	wantAdd(t, r, row(), false, api.OK)
	wantAdd(t, r, row(a()), false, api.ErrArg)
	if !r.Has(nil) || !r.Has(row()) || r.Len() != 1 || len(r.All()) != 1 || len(r.All()[0]) != 0 {
		t.Errorf("All: %+v", r.All())
	}
	wantMatch(t, r, nil, nil, false)
	if !r.Turn() {
		t.Error("Turn")
	}
	wantMatch(t, r, []int{}, row(), false, row())
	wantMatch(t, r, nil, nil, true, row())
	if _, e := r.Match([]int{0}, row(a()), false); e != api.ErrArg {
		t.Errorf("Match at a place of no values: %d", e)
	}
	r.Turn()
	wantMatch(t, r, nil, nil, false, row())
	wantMatch(t, r, nil, nil, true)
}

func TestP41RelationThatNewDidNotMake(t *testing.T) {
	var r relation.Rel
	wantAdd(t, &r, row(a()), false, api.ErrArg)
	wantAdd(t, &r, row(), true, api.OK)
	wantAdd(t, &r, nil, false, api.OK)
	if !r.Has(nil) || r.Len() != 1 || !r.Turn() || len(r.Delta()) != 1 {
		t.Errorf("All: %+v", r.All())
	}
}

func TestP42AllIsSorted(t *testing.T) {
	r := relation.New(2)
	for _, given := range rows(row(b(), n(1)), row(n(10), a()), row(a(), b()), row(n(-1), c()), row(a(), n(9)), row(n(9), a())) {
		wantAdd(t, r, given, true, api.OK)
		r.Turn()
	}
	want := rows(row(n(-1), c()), row(n(9), a()), row(n(10), a()), row(a(), n(9)), row(a(), b()), row(b(), n(1)))
	wantRows(t, "All", r.All(), want)
}

func TestP42AllAndDeltaByGeneration(t *testing.T) {
	r := aged(t)
	wantRows(t, "All", r.All(), rows(row(a(), n(1)), row(a(), n(2)), row(a(), n(3))))
	wantRows(t, "Delta", r.Delta(), rows(row(a(), n(2))))
}

func TestP42DeltaIsSorted(t *testing.T) {
	r := relation.New(1)
	wantAdd(t, r, row(b()), true, api.OK)
	r.Turn()
	for _, v := range []api.Value{c(), n(3), a(), n(-3)} {
		wantAdd(t, r, row(v), true, api.OK)
	}
	r.Turn()
	want := rows(row(n(-3)), row(n(3)), row(a()), row(c()))
	wantRows(t, "Delta", r.Delta(), want)
	wantMatch(t, r, nil, nil, true, want...)
	wantMatch(t, r, nil, nil, false, row(n(-3)), row(n(3)), row(a()), row(b()), row(c()))
}

func TestP42MatchByGeneration(t *testing.T) {
	r := aged(t)
	wantMatch(t, r, []int{0}, row(a()), false, row(a(), n(1)), row(a(), n(2)))
	wantMatch(t, r, []int{0}, row(a()), true, row(a(), n(2)))
	wantMatch(t, r, nil, nil, false, row(a(), n(1)), row(a(), n(2)))
	wantMatch(t, r, nil, nil, true, row(a(), n(2)))
	wantMatch(t, r, []int{1}, row(n(1)), false, row(a(), n(1)))
	wantMatch(t, r, []int{1}, row(n(1)), true)
	wantMatch(t, r, []int{1}, row(n(3)), false)
	wantMatch(t, r, []int{1}, row(n(3)), true)
}

func TestP42MatchHoldsAgainstEachRow(t *testing.T) {
	for arity := 1; arity <= 3; arity++ {
		r := relation.New(arity)
		all := tuple.Sort(rowsOf(arity, few()))
		for i, given := range all {
			if i%2 == 0 {
				wantAdd(t, r, given, true, api.OK)
			}
		}
		r.Turn()
		for place := range arity {
			for other := range arity {
				for _, v := range few() {
					for _, w := range few() {
						var want [][]api.Value
						for i, given := range all {
							if i%2 == 0 && value.Same(given[place], v) && value.Same(given[other], w) {
								want = append(want, given)
							}
						}
						wantMatch(t, r, []int{place, other}, row(v, w), false, want...)
						wantMatch(t, r, []int{place, other}, disguise(row(v, w)), true, want...)
					}
				}
			}
		}
	}
}

func TestP42MatchOnAllSixPlaces(t *testing.T) {
	r := relation.New(6)
	one := row(a(), b(), c(), n(1), n(2), n(3))
	wantAdd(t, r, one, true, api.OK)
	wantAdd(t, r, row(n(3), n(2), n(1), c(), b(), a()), true, api.OK)
	r.Turn()
	wantMatch(t, r, []int{0, 1, 2, 3, 4, 5}, one, false, one)
	wantMatch(t, r, []int{5, 4, 3, 2, 1, 0}, row(n(3), n(2), n(1), c(), b(), a()), false, one)
	for place, v := range one {
		wantMatch(t, r, []int{place}, row(v), false, one)
	}
	wantMatch(t, r, []int{0, 5}, row(a(), a()), false)
}

func TestP42MatchOnAPlaceTwice(t *testing.T) {
	r := aged(t)
	wantMatch(t, r, []int{1, 1}, row(n(2), n(2)), false, row(a(), n(2)))
	wantMatch(t, r, []int{1, 1}, row(n(2), n(1)), false)
	wantMatch(t, r, []int{1, 1}, row(n(1), n(2)), false)
	many, vals := make([]int, 20), slices.Repeat(row(a()), 20)
	wantMatch(t, r, many, vals, true, row(a(), n(2)))
	vals[19] = n(2)
	wantMatch(t, r, many, vals, true)
}

func TestP42MatchOnPlacesThatAreNone(t *testing.T) {
	for arity := 0; arity <= api.MaxArity; arity++ {
		r := relation.New(arity)
		wantAdd(t, r, make([]api.Value, arity), true, api.OK)
		r.Turn()
		for _, place := range []int{-1, arity, arity + 1, api.MaxArity, math.MinInt, math.MaxInt} {
			for _, only := range []bool{false, true} {
				for _, v := range []api.Value{{}, c()} {
					if got, e := r.Match([]int{place}, row(v), only); len(got) != 0 || e != api.ErrArg {
						t.Errorf("arity %d: Match at %d: %+v, %d", arity, place, got, e)
					}
				}
			}
		}
	}
	r := aged(t)
	for _, cols := range [][]int{{0, 2}, {2, 0}, {0, -1}, {-1, 0}} {
		if got, e := r.Match(cols, row(c(), c()), false); len(got) != 0 || e != api.ErrArg {
			t.Errorf("Match at %v: %+v, %d", cols, got, e)
		}
	}
}

func TestP42MatchOfUnlikeManyPlacesAndValues(t *testing.T) {
	r := aged(t)
	for _, k := range []struct {
		cols []int
		vals []api.Value
	}{{nil, row(a())}, {[]int{0}, nil}, {[]int{0}, row(a(), n(1))}, {[]int{0, 1}, row(a())}, {[]int{0, 1}, row(a(), n(1), n(1))}, {nil, row(c())}} {
		for _, only := range []bool{false, true} {
			if got, e := r.Match(k.cols, k.vals, only); len(got) != 0 || e != api.ErrArg {
				t.Errorf("Match(%v, %+v): %+v, %d", k.cols, k.vals, got, e)
			}
		}
	}
}

func TestP42MatchOfValuesThatAreNowhere(t *testing.T) {
	r := aged(t)
	for _, v := range []api.Value{c(), n(0), {}, value.Sym("1"), value.Sym("")} {
		for place := range 2 {
			wantMatch(t, r, []int{place}, row(v), false)
			wantMatch(t, r, []int{place}, row(v), true)
		}
		if r.Has(row(a(), v)) {
			t.Errorf("a, %+v is there", v)
		}
	}
	wantMatch(t, r, []int{0, 1}, row(a(), c()), false)
	wantMatch(t, r, []int{0, 1}, row(c(), n(1)), false)
	wantMatch(t, r, []int{1}, row(a()), false)
	if r.Len() != 3 || len(r.All()) != 3 {
		t.Errorf("asking added rows: %+v", r.All())
	}
}

func TestP42NilRelation(t *testing.T) {
	r := relation.New(-1)
	for _, given := range rows(nil, row(), row(a()), row(a(), b())) {
		wantAdd(t, r, given, false, api.ErrArg)
		if r.Has(given) {
			t.Errorf("Has(%+v) of nil", given)
		}
	}
	if r.Turn() || r.Len() != 0 || len(r.All()) != 0 || len(r.Delta()) != 0 {
		t.Error("a relation that is nil has rows")
	}
	for _, only := range []bool{false, true} {
		for _, cols := range [][]int{nil, {}, {0}, {-1}, {0, 1}} {
			if got, e := r.Match(cols, make([]api.Value, len(cols)), only); len(got) != 0 || e != api.ErrArg {
				t.Errorf("Match(%v) of nil: %+v, %d", cols, got, e)
			}
		}
	}
}

func TestP42ArgumentsStayAndAreNotKept(t *testing.T) {
	r := relation.New(2)
	given := []api.Value{{IsSym: true, Sym: "a", N: 5}, {N: 1, Sym: "z"}}
	kept := slices.Clone(given)
	wantAdd(t, r, given, true, api.OK)
	r.Has(given)
	cols := []int{1, 0, 1}
	vals := []api.Value{given[1], given[0], given[1]}
	r.Turn()
	wantMatch(t, r, cols, vals, false, row(a(), n(1)))
	if !slices.Equal(given, kept) || !slices.Equal(cols, []int{1, 0, 1}) || !slices.Equal(vals, []api.Value{kept[1], kept[0], kept[1]}) {
		t.Errorf("arguments are changed: %+v, %v, %+v", given, cols, vals)
	}
	given[0], given[1] = b(), b()
	wantRows(t, "All", r.All(), rows(row(a(), n(1))))
}

func TestP42AnswersAreTheCallersOwn(t *testing.T) {
	r := relation.New(2)
	want := rows(row(a(), n(1)), row(a(), n(2)))
	for _, given := range want {
		wantAdd(t, r, given, true, api.OK)
	}
	r.Turn()
	match := func() [][]api.Value {
		l, _ := r.Match([]int{0}, row(a()), false)
		return l
	}
	for _, ask := range []func() [][]api.Value{r.All, r.Delta, match} {
		got := ask()
		_ = append(got[0], c())
		wantRows(t, "behind append", got, want)
		got[0][0], got[1] = b(), nil
		wantRows(t, "All", r.All(), want)
		wantRows(t, "Delta", r.Delta(), want)
		wantRows(t, "Match", match(), want)
		if !r.Has(row(a(), n(1))) || r.Has(row(b(), n(1))) {
			t.Error("what was told is shared with the relation")
		}
	}
}

func TestP42AnswersStayBehindTurns(t *testing.T) {
	r := aged(t)
	all, young := r.All(), r.Delta()
	wantAdd(t, r, row(a(), n(0)), true, api.OK)
	r.Turn()
	wantRows(t, "All of then", all, rows(row(a(), n(1)), row(a(), n(2)), row(a(), n(3))))
	wantRows(t, "Delta of then", young, rows(row(a(), n(2))))
}

func TestP42RelationsShareNothing(t *testing.T) {
	r, s := relation.New(1), relation.New(1)
	wantAdd(t, r, row(a()), true, api.OK)
	if s.Has(row(a())) || s.Len() != 0 || s.Turn() {
		t.Errorf("the other relation has rows: %+v", s.All())
	}
	wantAdd(t, s, row(b()), true, api.OK)
	wantRows(t, "All", r.All(), rows(row(a())))
	wantRows(t, "All of the other", s.All(), rows(row(b())))
}

// permuted hands all orders of the places below n to see.
func permuted(n int, see func(order []int)) {
	order := make([]int, 0, n)
	var more func()
	more = func() {
		if len(order) == n {
			see(order)
			return
		}
		for i := range n {
			if !slices.Contains(order, i) {
				order = append(order, i)
				more()
				order = order[:len(order)-1]
			}
		}
	}
	more()
}

func TestP43RowsInAnyOrder(t *testing.T) {
	given := rows(row(a(), n(1)), row(n(1), a()), row(a(), a()), row(b(), n(-1)), row(n(1), n(1)), row(a(), b()))
	want := tuple.Sort(given)
	permuted(len(given), func(order []int) {
		r := relation.New(2)
		for _, i := range order {
			wantAdd(t, r, given[i], true, api.OK)
		}
		wantRows(t, "All", r.All(), want)
		r.Turn()
		for _, i := range order {
			wantAdd(t, r, given[i], false, api.OK)
		}
		wantRows(t, "Delta", r.Delta(), want)
		wantMatch(t, r, []int{0}, row(a()), false, row(a(), n(1)), row(a(), a()), row(a(), b()))
		wantMatch(t, r, []int{1}, row(n(1)), true, row(n(1), n(1)), row(a(), n(1)))
	})
}

func TestP43RowsInAnyOrderOverTurns(t *testing.T) {
	given := rows(row(a()), row(n(1)), row(b()), row(n(-1)), row(c()))
	permuted(len(given), func(order []int) {
		r := relation.New(1)
		for _, i := range order {
			wantAdd(t, r, given[i], true, api.OK)
			r.Turn()
			wantRows(t, "Delta", r.Delta(), rows(given[i]))
		}
		wantRows(t, "All", r.All(), tuple.Sort(given))
		wantMatch(t, r, nil, nil, false, tuple.Sort(given)...)
	})
}

func TestP43NewIsMatchedByNothing(t *testing.T) {
	r := relation.New(1)
	wantAdd(t, r, row(a()), true, api.OK)
	wantMatch(t, r, nil, nil, false)
	wantMatch(t, r, nil, nil, true)
	wantMatch(t, r, []int{0}, row(a()), false)
	wantMatch(t, r, []int{0}, row(a()), true)
	if len(r.Delta()) != 0 || !r.Has(row(a())) || r.Len() != 1 {
		t.Errorf("Delta: %+v", r.Delta())
	}
	r.Turn()
	wantMatch(t, r, []int{0}, row(a()), false, row(a()))
	wantMatch(t, r, []int{0}, row(a()), true, row(a()))
}

func TestP43DeltaIsWhatCameBetweenTwoTurns(t *testing.T) {
	r := relation.New(1)
	var before [][]api.Value
	for turn := range int64(20) {
		var between [][]api.Value
		for i := range turn % 4 {
			between = append(between, row(n(turn*10+i)))
		}
		for _, given := range slices.Concat(before, between) {
			r.Add(given)
		}
		if got := r.Turn(); got != (len(between) > 0) {
			t.Errorf("Turn %d: %v", turn, got)
		}
		before = append(before, between...)
		wantRows(t, "Delta", r.Delta(), between)
		wantMatch(t, r, nil, nil, true, between...)
		wantMatch(t, r, nil, nil, false, before...)
		if r.Len() != len(before) {
			t.Errorf("Len: %d, want %d", r.Len(), len(before))
		}
	}
}

func TestP43ManyRows(t *testing.T) {
	r := relation.New(3)
	const many = 20000
	at := func(i int64) []api.Value {
		return row(n(i*7919%many), value.Sym(strconv.FormatInt(i%100, 10)), n(i%3))
	}
	for i := range int64(many) {
		wantAdd(t, r, at(i), true, api.OK)
	}
	for i := range int64(many) {
		wantAdd(t, r, at(i), false, api.OK)
	}
	r.Turn()
	got, e := r.Match([]int{2, 1}, row(n(2), value.Sym("5")), true)
	if e != api.OK || len(got) != 67 || !slices.IsSortedFunc(got, tuple.Compare) {
		t.Errorf("Match: %d rows, %d", len(got), e)
	}
	if all := r.All(); len(all) != many || r.Len() != many || !slices.IsSortedFunc(all, tuple.Compare) {
		t.Errorf("All: %d rows", len(all))
	}
}

func TestExample(t *testing.T) {
	r := relation.New(1)
	wantAdd(t, r, row(a()), true, api.OK)
	wantAdd(t, r, row(a()), false, api.OK)
	r.Turn()
	wantRows(t, "Delta", r.Delta(), rows(row(a())))
	r.Turn()
	wantRows(t, "Delta", r.Delta(), nil)
}

// plainRel is what the document says of a relation, with no thought of speed.
type plainRel struct {
	full, delta, fresh [][]api.Value
}

func (p *plainRel) all() [][]api.Value { return slices.Concat(p.full, p.delta, p.fresh) }

func (p *plainRel) has(t []api.Value) bool {
	return slices.ContainsFunc(p.all(), func(row []api.Value) bool { return tuple.Compare(row, t) == 0 })
}

func (p *plainRel) add(t []api.Value) bool {
	if p.has(t) {
		return false
	}
	p.fresh = append(p.fresh, tuple.Of(t...))
	return true
}

func (p *plainRel) turn() bool {
	p.full, p.delta, p.fresh = slices.Concat(p.full, p.delta), p.fresh, nil
	return len(p.delta) > 0
}

func (p *plainRel) match(place int, v api.Value, only bool) [][]api.Value {
	from := slices.Concat(p.full, p.delta)
	if only {
		from = p.delta
	}
	var found [][]api.Value
	for _, row := range from {
		if value.Same(row[place], v) {
			found = append(found, row)
		}
	}
	return tuple.Sort(found)
}

// FuzzRel does what bytes say: two values of a row to add, ask for, or match, or a turn.
func FuzzRel(f *testing.F) {
	f.Add([]byte{0, 1, 7, 2, 3, 7, 7})
	f.Add([]byte("relation"))
	f.Fuzz(func(t *testing.T, steps []byte) {
		r, p := relation.New(2), &plainRel{}
		vs := few()
		for _, step := range steps {
			v, w := vs[step%6], vs[step/6%6]
			given := disguise(row(v, w))
			switch step / 36 {
			case 0, 1, 2, 3:
				if got, e := r.Add(given); got != p.add(given) || e != api.OK {
					t.Fatalf("Add(%+v): %v, %d", given, got, e)
				}
			case 4:
				if r.Has(given) != p.has(given) {
					t.Fatalf("Has(%+v)", given)
				}
			case 5:
				only := step%2 == 0
				wantMatch(t, r, []int{0}, row(v), only, p.match(0, v, only)...)
				wantMatch(t, r, []int{1}, row(w), only, p.match(1, w, only)...)
			default:
				if r.Turn() != p.turn() {
					t.Fatal("Turn")
				}
			}
			wantRows(t, "All", r.All(), tuple.Sort(p.all()))
			wantRows(t, "Delta", r.Delta(), tuple.Sort(p.delta))
			if r.Len() != len(p.all()) {
				t.Fatalf("Len: %d", r.Len())
			}
		}
	})
}
