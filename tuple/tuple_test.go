package tuple_test

import (
	"cmp"
	"math"
	"slices"
	"strconv"
	"strings"
	"testing"

	"lambrequin/api"
	"lambrequin/tuple"
	"lambrequin/value"
)

// rising holds unlike values, each below the next one.
func rising() []api.Value {
	var l []api.Value
	for _, n := range []int64{math.MinInt64, -10, -9, -1, 0, 1, 9, 10, math.MaxInt64} {
		l = append(l, value.Int(n))
	}
	for _, s := range []string{"", "\x00", "-1", "1", "1:", ":", "A", "a", "ab", "n1:1", "s1:a", "\xff"} {
		l = append(l, value.Sym(s))
	}
	return l
}

// risingRows holds unlike rows, each below the next one: of each pair one begins as the other one, or there is a first unlike pair of values.
func risingRows() [][]api.Value {
	l := [][]api.Value{{}}
	for _, v := range rising() {
		l = append(l, []api.Value{v})
		for _, w := range rising() {
			l = append(l, []api.Value{v, w}, []api.Value{v, w, value.Int(-3)}, []api.Value{v, w, value.Sym("z")})
		}
	}
	return l
}

// disguise is a row that is alike, with the fields that play no part holding other things.
func disguise(row []api.Value, n int64, s string) []api.Value {
	var l []api.Value
	for _, v := range row {
		if v.IsSym {
			l = append(l, api.Value{IsSym: true, Sym: v.Sym, N: n})
		} else {
			l = append(l, api.Value{N: v.N, Sym: s})
		}
	}
	return l
}

func disguises(row []api.Value) [][]api.Value {
	return [][]api.Value{row, disguise(row, 1, "a"), disguise(row, math.MinInt64, "\xff:"), disguise(row, math.MaxInt64, "7")}
}

// words are all texts of up to most of these bytes.
func words(bytes string, most int) []string {
	all, last := []string{""}, []string{""}
	for range most {
		var next []string
		for _, s := range last {
			for i := range len(bytes) {
				next = append(next, s+bytes[i:i+1])
			}
		}
		all, last = append(all, next...), next
	}
	return all
}

func TestP31OfHasNoOtherFields(t *testing.T) {
	for _, row := range risingRows() {
		for _, d := range disguises(row) {
			if got := tuple.Of(d...); !slices.Equal(got, row) {
				t.Fatalf("Of(%+v) = %+v", d, got)
			}
		}
	}
}

func TestP31OfNothing(t *testing.T) {
	if got := tuple.Of(); len(got) != 0 {
		t.Errorf("Of() = %+v", got)
	}
	if got := tuple.Of([]api.Value{}...); len(got) != 0 {
		t.Errorf("Of of an empty list = %+v", got)
	}
	if got := tuple.Of(api.Value{}); len(got) != 1 || got[0] != value.Int(0) {
		t.Errorf("Of the zero value = %+v", got)
	}
}

func TestP31OfIsNewMemory(t *testing.T) {
	given := []api.Value{{IsSym: true, Sym: "a", N: 5}, {Sym: "z", N: 2}, value.Int(3)}
	kept := slices.Clone(given)
	got := tuple.Of(given[:2]...)
	if !slices.Equal(given, kept) {
		t.Errorf("Of changed its argument to %+v", given)
	}
	got[0] = value.Int(9)
	_ = append(got, value.Int(9))
	if !slices.Equal(given, kept) {
		t.Errorf("the answer shares memory with the argument: %+v", given)
	}
}

func TestP31Compare(t *testing.T) {
	l := risingRows()
	for i, a := range l {
		for j, b := range l {
			if got, want := tuple.Compare(a, b), cmp.Compare(i, j); got != want {
				t.Fatalf("Compare(%+v, %+v) = %d, want %d", a, b, got, want)
			}
		}
	}
}

func TestP31CompareByFieldsThatPlayAPart(t *testing.T) {
	l := risingRows()
	for i, a := range l {
		for j := max(0, i-5); j < min(len(l), i+6); j++ {
			for _, x := range disguises(a) {
				for _, y := range disguises(l[j]) {
					if got, want := tuple.Compare(x, y), cmp.Compare(i, j); got != want {
						t.Fatalf("Compare(%+v, %+v) = %d, want %d", x, y, got, want)
					}
				}
			}
		}
	}
}

func TestP31CompareOfNilAndEmpty(t *testing.T) {
	nothing := [][]api.Value{nil, {}, make([]api.Value, 0, 4)}
	for _, a := range nothing {
		for _, b := range nothing {
			if c := tuple.Compare(a, b); c != 0 {
				t.Errorf("two empty rows: %d", c)
			}
		}
		least := []api.Value{value.Int(math.MinInt64)}
		if c, d := tuple.Compare(a, least), tuple.Compare(least, a); c != -1 || d != 1 {
			t.Errorf("an empty row and the least value: %d, %d", c, d)
		}
	}
}

func TestP31CompareAnswersOneStepOnly(t *testing.T) {
	long := slices.Repeat([]api.Value{value.Sym("a")}, 50)
	for _, p := range [][2][]api.Value{{nil, long}, {long[:1], long}, {long[:49], long}, {{value.Int(math.MinInt64)}, {value.Int(math.MaxInt64)}}, {{value.Sym("\x00")}, {value.Sym("\xff")}}} {
		if c, d := tuple.Compare(p[0], p[1]), tuple.Compare(p[1], p[0]); c != -1 || d != 1 {
			t.Errorf("Compare(%+v, %+v) = %d, and back %d", p[0], p[1], c, d)
		}
	}
}

func TestP31Sort(t *testing.T) {
	want := risingRows()
	const step = 331 // a prime, so all rows come, far from order, unless it divides how many there are
	if len(want)%step == 0 {
		t.Fatal("some rows never come")
	}
	var given [][]api.Value
	for i := range 3 * len(want) {
		given = append(given, want[i*step%len(want)])
	}
	for name, l := range map[string][][]api.Value{"mixed": given, "in order": want, "twice": append(slices.Clone(want), want...)} {
		if got := tuple.Sort(l); !slices.EqualFunc(got, want, slices.Equal) {
			t.Errorf("%s: %d rows, want %d, or not in order", name, len(got), len(want))
		}
	}
	slices.Reverse(given)
	if got := tuple.Sort(given); !slices.EqualFunc(got, want, slices.Equal) {
		t.Errorf("reversed: %d rows, want %d, or not in order", len(got), len(want))
	}
}

func TestP31SortOfNothing(t *testing.T) {
	if got := tuple.Sort(nil); len(got) != 0 {
		t.Errorf("Sort(nil) = %+v", got)
	}
	if got := tuple.Sort([][]api.Value{}); len(got) != 0 {
		t.Errorf("Sort of no rows = %+v", got)
	}
	if got := tuple.Sort([][]api.Value{nil, {}, nil}); len(got) != 1 || len(got[0]) != 0 {
		t.Errorf("Sort of empty rows = %+v", got)
	}
}

func TestP31SortKeepsTheFirstOfAlikeRows(t *testing.T) {
	rows := [][]api.Value{{value.Sym("b"), value.Int(1)}, {value.Int(2)}, {value.Sym("a")}, {value.Sym("b")}}
	var given [][]api.Value
	for n := range int64(40) {
		for _, row := range rows {
			given = append(given, disguise(row, n+1, strconv.FormatInt(n+1, 10)))
		}
	}
	var want [][]api.Value
	for _, i := range []int{1, 2, 3, 0} {
		want = append(want, disguise(rows[i], 1, "1"))
	}
	if got := tuple.Sort(given); !slices.EqualFunc(got, want, slices.Equal) {
		t.Errorf("Sort keeps %+v, want %+v", got, want)
	}
}

func TestP31SortIsNewMemory(t *testing.T) {
	back := []api.Value{value.Int(2), value.Int(1), value.Int(2), value.Int(7)}
	given := [][]api.Value{back[:1], back[1:2], back[2:3]}
	kept := slices.Clone(back)
	got := tuple.Sort(given)
	if len(got) != 2 {
		t.Fatalf("Sort = %+v", got)
	}
	if len(given[0]) != 1 || len(given[1]) != 1 || len(given[2]) != 1 || &given[0][0] != &back[0] || &given[1][0] != &back[1] || &given[2][0] != &back[2] {
		t.Errorf("Sort changed its argument to %+v", given)
	}
	for i := range got {
		got[i][0] = value.Sym("x")
		got[i] = append(got[i], value.Sym("y"))
	}
	got[0] = append(got[0], value.Sym("z"))
	if !slices.Equal(back, kept) || !slices.Equal(got[1], tuple.Of(value.Sym("x"), value.Sym("y"))) {
		t.Errorf("the answer's rows share memory: %+v, %+v", back, got)
	}
}

func TestP32KeyOfRows(t *testing.T) {
	long := strings.Repeat("x", 1000)
	keys := []struct {
		row  []api.Value
		want string
	}{
		{nil, ""}, {[]api.Value{}, ""},
		{tuple.Of(value.Sym("")), "s0:"},
		{tuple.Of(value.Sym(""), value.Sym("")), "s0:s0:"},
		{tuple.Of(value.Int(0)), "n1:0"}, {tuple.Of(value.Int(-7)), "n2:-7"}, {tuple.Of(value.Int(10)), "n2:10"},
		{tuple.Of(value.Int(math.MaxInt64), value.Int(math.MinInt64)), "n19:9223372036854775807n20:-9223372036854775808"},
		{tuple.Of(value.Sym("7")), "s1:7"}, {tuple.Of(value.Sym("-7"), value.Int(7)), "s2:-7n1:7"},
		{tuple.Of(value.Sym("s1:x")), "s4:s1:x"}, {tuple.Of(value.Sym(":"), value.Sym("1:")), "s1::s2:1:"},
		{tuple.Of(value.Sym("'A b'\n\\")), "s7:'A b'\n\\"},
		{tuple.Of(value.Sym("é"), value.Sym("\xff\x00")), "s2:és2:\xff\x00"},
		{tuple.Of(value.Sym(long), value.Sym("y")), "s1000:" + long + "s1:y"},
	}
	for _, c := range keys {
		for _, d := range disguises(c.row) {
			if got := tuple.Key(d); got != c.want {
				t.Errorf("Key(%+v) = %q, want %q", d, got, c.want)
			}
		}
		if got, e := tuple.Back(c.want); !slices.Equal(got, c.row) || e != api.OK {
			t.Errorf("Back(%q) = %+v, %d", c.want, got, e)
		}
	}
}

func TestP32BackOfEachKey(t *testing.T) {
	for _, row := range risingRows() {
		for _, d := range disguises(row) {
			if got, e := tuple.Back(tuple.Key(d)); !slices.Equal(got, row) || e != api.OK {
				t.Fatalf("Back(Key(%+v)) = %+v, %d", d, got, e)
			}
		}
	}
	for b := range 256 {
		row := tuple.Of(value.Sym(string([]byte{byte(b)})), value.Sym(string([]byte{byte(b), byte(b)})))
		if got, e := tuple.Back(tuple.Key(row)); !slices.Equal(got, row) || e != api.OK {
			t.Fatalf("Back(Key(%+v)) = %+v, %d", row, got, e)
		}
	}
}

func TestP32BackOfManyValues(t *testing.T) {
	var row []api.Value
	for i := range int64(20000) {
		row = append(row, value.Int(i-10000), value.Sym(strings.Repeat(":", int(i%30))))
	}
	if got, e := tuple.Back(tuple.Key(row)); !slices.Equal(got, row) || e != api.OK {
		t.Errorf("%d values come back as %d, %d", len(row), len(got), e)
	}
}

func TestP32BackOfTextsThatAreNoKey(t *testing.T) {
	huge := strings.Repeat("9", 5000)
	wrong := []string{
		"s", "n", ":", "s:", "n:", "s1", "n1", "s1:", "n1:", "s0", "s2:a", "n2:1", "a", "1:a", " ", "\x00",
		"x1:a", "S1:a", "N1:1", "ss1:a", "s 1:a", "s1 :a", " s1:a", "s1:a ", "s1:a\n", "s1;a",
		"s01:a", "s00:", "s+1:a", "s-0:", "s-1:", "s-1:a", "s0x1:a", "s1_0:aaaaaaaaaa", "s1e0:a", "s１:a", "s1.0:a",
		"n0:", "n1:x", "n1:-", "n1:+", "n1:a", "n1: ", "n2:05", "n2:00", "n2:-0", "n2:+5", "n2: 5", "n2:5 ", "n3:-05", "n3:0x5", "n3:1_0", "n3:1e3", "n3:--5", "n2:5-", "n01:5", "n3:５", "n1:\xff",
		"n19:9223372036854775808", "n20:-9223372036854775809", "n20:18446744073709551615", "n20:09223372036854775807", "n5000:" + huge,
		"s9223372036854775807:a", "s9223372036854775808:a", "s18446744073709551617:a", "s4294967297:a", "s-9223372036854775808:a", "s" + huge + ":a",
		"s1:an", "s1:as1:", "s1:as2:b", "s1:ab", "n1:12", "s1:an2:1", "n1:1x1:a", "s1:an2:-0", "s0:0", "s0:s", "n2:-7s4:s1:",
	}
	for _, s := range wrong {
		for _, text := range []string{s, "s1:a" + s, "n1:5s0:" + s} {
			if got, e := tuple.Back(text); len(got) != 0 || e != api.ErrForm {
				t.Errorf("Back(%.60q) = %+v, %d", text, got, e)
			}
		}
	}
}

// TestP32BackOfAllShortTexts: a text is a key just if it is the key of what Back tells.
func TestP32BackOfAllShortTexts(t *testing.T) {
	keys := map[string]int{}
	short := []api.Value{value.Sym("")}
	for _, s := range words("sn012:-+", 3) {
		short = append(short, value.Sym(s))
		if n, err := strconv.ParseInt(s, 10, 64); err == nil {
			short = append(short, value.Int(n))
		}
	}
	for _, v := range short {
		keys[tuple.Key(tuple.Of(v))]++
		for _, w := range short[:30] {
			keys[tuple.Key(tuple.Of(v, w))]++
		}
	}
	for _, s := range words("sn012:-+", 6) {
		row, e := tuple.Back(s)
		if e == api.OK && tuple.Key(row) != s {
			t.Fatalf("Back(%q) = %+v, whose key is %q", s, row, tuple.Key(row))
		}
		if e != api.OK && (e != api.ErrForm || len(row) != 0 || keys[s] != 0 || s == "") {
			t.Fatalf("Back(%q) = %+v, %d, known as a key: %d", s, row, e, keys[s])
		}
	}
}

func TestP32CallsChangeNoArgument(t *testing.T) {
	given := []api.Value{{IsSym: true, Sym: "a", N: 5}, {Sym: "z", N: 2}}
	kept := slices.Clone(given)
	tuple.Key(given)
	tuple.Compare(given, given[:1])
	if !slices.Equal(given, kept) {
		t.Errorf("the argument is now %+v", given)
	}
}

func TestP33Project(t *testing.T) {
	row := tuple.Of(value.Sym("a"), value.Sym("b"), value.Int(-7))
	for _, c := range []struct{ cols, want []int }{
		{nil, nil}, {[]int{}, nil}, {[]int{0}, []int{0}}, {[]int{2}, []int{2}}, {[]int{2, 0, 0}, []int{2, 0, 0}}, {[]int{0, 1, 2}, []int{0, 1, 2}}, {[]int{1, 1, 1, 1, 1}, []int{1, 1, 1, 1, 1}},
	} {
		var want []api.Value
		for _, i := range c.want {
			want = append(want, row[i])
		}
		if got, e := tuple.Project(row, c.cols...); !slices.Equal(got, want) || e != api.OK {
			t.Errorf("Project(%v) = %+v, %d", c.cols, got, e)
		}
	}
}

func TestP33ProjectOfEmptyRows(t *testing.T) {
	for _, row := range [][]api.Value{nil, {}, make([]api.Value, 0, 3)} {
		if got, e := tuple.Project(row); len(got) != 0 || e != api.OK {
			t.Errorf("no places of an empty row: %+v, %d", got, e)
		}
		for _, place := range []int{0, 1, -1, 2} {
			if got, e := tuple.Project(row, place); len(got) != 0 || e != api.ErrArg {
				t.Errorf("place %d of an empty row: %+v, %d", place, got, e)
			}
		}
	}
}

func TestP33PlacesThatAreNone(t *testing.T) {
	row := tuple.Of(value.Sym("a"), value.Sym("b"), value.Sym("c"))[:2]
	for _, place := range []int{-1, -2, 2, 3, math.MaxInt32, math.MinInt32, math.MaxInt, math.MinInt} {
		for _, cols := range [][]int{{place}, {place, 0}, {0, 1, place}, {1, place, 0}, {place, place}} {
			if got, e := tuple.Project(row, cols...); len(got) != 0 || e != api.ErrArg {
				t.Errorf("Project(%v) = %+v, %d", cols, got, e)
			}
		}
	}
}

func TestP33ProjectIsNewMemory(t *testing.T) {
	row, cols := tuple.Of(value.Sym("a"), value.Int(1), value.Int(2)), []int{0, 1, 2}
	got, _ := tuple.Project(row, cols[:2]...)
	got[0] = value.Int(9)
	_ = append(got, value.Int(9))
	if !slices.Equal(row, tuple.Of(value.Sym("a"), value.Int(1), value.Int(2))) || !slices.Equal(cols, []int{0, 1, 2}) {
		t.Errorf("the arguments are now %+v, %v", row, cols)
	}
}

func TestP34OneOrder(t *testing.T) {
	var l [][]api.Value
	all := risingRows()
	for i := 0; i < len(all); i += 7 {
		l = append(l, all[i], disguise(all[i], -4, "q"))
	}
	for _, a := range l {
		for _, b := range l {
			ab := tuple.Compare(a, b)
			if tuple.Compare(b, a) != -ab || ab < -1 || ab > 1 {
				t.Fatalf("%+v and %+v have no one order", a, b)
			}
			for _, c := range l {
				bc := tuple.Compare(b, c)
				if ab <= 0 && bc <= 0 && tuple.Compare(a, c) != min(ab, bc) {
					t.Fatalf("%+v, %+v, %+v are in no one order", a, b, c)
				}
			}
		}
	}
}

func TestP34OneKeyJustOfAlikeRows(t *testing.T) {
	l := risingRows()
	parts := words("s1:n0", 3)
	for _, a := range parts {
		l = append(l, tuple.Of(value.Sym(a), value.Int(1), value.Int(1)))
		for _, b := range parts[:31] {
			l = append(l, tuple.Of(value.Sym("s"+a), value.Sym("0s"+b)), tuple.Of(value.Sym("s"+a+"0s"+b)), tuple.Of(value.Sym("s"), value.Sym("0s"), value.Sym(a), value.Sym(b)))
		}
	}
	seen := map[string][]api.Value{}
	for _, row := range l {
		key := tuple.Key(row)
		if old, ok := seen[key]; ok && tuple.Compare(old, row) != 0 {
			t.Fatalf("%+v and %+v have the key %q", old, row, key)
		}
		seen[key] = row
		for _, d := range disguises(row) {
			if tuple.Key(d) != key || tuple.Compare(d, row) != 0 {
				t.Fatalf("%+v and %+v are alike, with unlike keys", d, row)
			}
		}
	}
}

func TestExample(t *testing.T) {
	if s := tuple.Key(tuple.Of(value.Sym("a"), value.Int(12))); s != "s1:an2:12" {
		t.Errorf("the key of a, 12 is %q", s)
	}
}

// FuzzBack: what Back takes is the key of what it tells, and every key comes back.
func FuzzBack(f *testing.F) {
	f.Add("s1:an2:12")
	f.Add("n20:-9223372036854775808s0:")
	f.Add("s01:a")
	f.Fuzz(func(t *testing.T, s string) {
		row, e := tuple.Back(s)
		if e != api.OK && (e != api.ErrForm || len(row) != 0) {
			t.Errorf("Back(%q) = %+v, %d", s, row, e)
		}
		if e == api.OK && (tuple.Key(row) != s || !slices.Equal(tuple.Of(row...), row)) {
			t.Errorf("Back(%q) = %+v, whose key is %q", s, row, tuple.Key(row))
		}
		mine := []api.Value{value.Sym(s), value.Int(int64(len(s))), value.Sym(s)}
		if got, e := tuple.Back(tuple.Key(mine)); !slices.Equal(got, mine) || e != api.OK {
			t.Errorf("Back(Key(%+v)) = %+v, %d", mine, got, e)
		}
	})
}
