package graph_test

import (
	"fmt"
	"math"
	"slices"
	"testing"

	"lambrequin/api"
	"lambrequin/graph"
)

type edges = [][2]int

// spoil changes all that a caller may change of a list that was told, up to its capacity.
func spoil[T any](l []T, with T) {
	l = l[:cap(l)]
	for i := range l {
		l[i] = with
	}
}

// wantClean asks twice, so that what the caller does with what is told must change nothing.
func wantClean(t *testing.T, n int, l edges, want edges, e api.Errno) {
	t.Helper()
	kept := slices.Clone(l)
	for range 2 {
		got, errno := graph.Clean(n, l)
		if !slices.Equal(got, want) || errno != e {
			t.Errorf("Clean(%d, %.300v): %.300v, %d, want %.300v, %d", n, kept, got, errno, want, e)
		}
		spoil(got, [2]int{-7, -7})
		if !slices.Equal(l, kept) {
			t.Fatalf("%.300v was changed: %.300v", kept, l)
		}
	}
}

func wantReach(t *testing.T, n int, l edges, from int, want ...bool) {
	t.Helper()
	kept := slices.Clone(l)
	for range 2 {
		got := graph.Reach(n, l, from)
		if !slices.Equal(got, want) {
			t.Errorf("Reach(%d, %.300v, %d): %.300v, want %.300v", n, kept, from, got, want)
		}
		for i := range got {
			got[i] = !got[i]
		}
	}
	if !slices.Equal(l, kept) {
		t.Fatalf("%.300v was changed: %.300v", kept, l)
	}
}

// wantReached is wantReach of those nodes that are told true.
func wantReached(t *testing.T, n int, l edges, from int, nodes ...int) {
	t.Helper()
	want := make([]bool, n)
	for _, node := range nodes {
		want[node] = true
	}
	wantReach(t, n, l, from, want...)
}

func wantParts(t *testing.T, n int, l edges, want ...[]int) {
	t.Helper()
	kept := slices.Clone(l)
	for range 2 {
		got := graph.Parts(n, l)
		if !slices.EqualFunc(got, want, slices.Equal) {
			t.Errorf("Parts(%d, %.300v): %.300v, want %.300v", n, kept, got, want)
			return
		}
		// The parts share nothing with each other: those behind one that was changed are as they were.
		for i, part := range got {
			if !slices.Equal(part, want[i]) {
				t.Errorf("Parts(%d, %.300v): the part %d was changed by one ahead of it", n, kept, i)
			}
			spoil(part, -7)
		}
		spoil(got, nil)
	}
	if !slices.Equal(l, kept) {
		t.Fatalf("%.300v was changed: %.300v", kept, l)
	}
}

func wantPath(t *testing.T, n int, l edges, from, to int, want ...int) {
	t.Helper()
	kept := slices.Clone(l)
	for range 2 {
		got := graph.Path(n, l, from, to)
		if !slices.Equal(got, want) {
			t.Errorf("Path(%d, %.300v, %d, %d): %.300v, want %.300v", n, kept, from, to, got, want)
		}
		spoil(got, -7)
	}
	if !slices.Equal(l, kept) {
		t.Fatalf("%.300v was changed: %.300v", kept, l)
	}
}

// orders goes through all orders of what stands from a place on.
func orders[T any](l []T, from int, each func([]T)) {
	if from >= len(l) {
		each(l)
		return
	}
	for i := from; i < len(l); i++ {
		l[from], l[i] = l[i], l[from]
		orders(l, from+1, each)
		l[from], l[i] = l[i], l[from]
	}
}

// chance tells numbers that look like chance, the same ones in each run.
type chance uint32

func (c *chance) below(n int) int {
	*c = *c*1664525 + 1013904223
	return int(uint32(*c)>>8) % n
}

func (c *chance) edges(n, count int) edges {
	l := make(edges, count)
	for i := range l {
		l[i] = [2]int{c.below(n), c.below(n)}
	}
	return l
}

func (c *chance) shuffle(l edges) {
	for i := range l {
		j := i + c.below(len(l)-i)
		l[i], l[j] = l[j], l[i]
	}
}

// The plain ones do what the chapter says by its words, whatever time it takes.

func plainClean(n int, l edges) edges {
	told := edges{}
	for a := range n {
		for b := range n {
			if slices.Contains(l, [2]int{a, b}) {
				told = append(told, [2]int{a, b})
			}
		}
	}
	return told
}

// plainReach tells of each two nodes whether there is a path from the one to the other one.
func plainReach(n int, l edges) [][]bool {
	is := make([][]bool, n)
	for a := range is {
		is[a] = make([]bool, n)
		is[a][a] = true
	}
	for _, x := range l {
		is[x[0]][x[1]] = true
	}
	for by := range n {
		for a := range n {
			for b := range n {
				is[a][b] = is[a][b] || is[a][by] && is[by][b]
			}
		}
	}
	return is
}

func plainParts(n int, l edges) [][]int {
	is := plainReach(n, l)
	told := make([]bool, n)
	parts := [][]int{}
	for {
		next := slices.IndexFunc(told, func(x bool) bool { return !x })
		if next < 0 {
			return parts
		}
		for a := n - 1; a >= 0; a-- {
			stands := !told[a]
			for b := range n {
				stands = stands && (!is[a][b] || is[b][a] || told[b])
			}
			if stands {
				next = a
			}
		}
		part := []int{}
		for b := range n {
			if is[next][b] && is[b][next] {
				part = append(part, b)
				told[b] = true
			}
		}
		parts = append(parts, part)
	}
}

// plainPath goes along all paths that come to no node twice.
func plainPath(l edges, path []int, to int) []int {
	last := path[len(path)-1]
	if last == to {
		return slices.Clone(path)
	}
	var best []int
	for _, x := range l {
		if x[0] != last || slices.Contains(path, x[1]) {
			continue
		}
		p := plainPath(l, append(path, x[1]), to)
		if p != nil && (best == nil || len(p) < len(best) || len(p) == len(best) && slices.Compare(p, best) < 0) {
			best = p
		}
	}
	return best
}

// wantPlain holds all calls against the plain ones.
func wantPlain(t *testing.T, n int, l edges) {
	t.Helper()
	clean := plainClean(n, l)
	wantClean(t, n, l, clean, api.OK)
	is := plainReach(n, l)
	for from := range n {
		wantReach(t, n, l, from, is[from]...)
		for to := range n {
			wantPath(t, n, l, from, to, plainPath(clean, []int{from}, to)...)
		}
	}
	wantParts(t, n, l, plainParts(n, l)...)
}

func TestP101Clean(t *testing.T) {
	wantClean(t, 0, nil, nil, api.OK)
	wantClean(t, 0, edges{}, nil, api.OK)
	wantClean(t, 1, nil, nil, api.OK)
	wantClean(t, 5, edges{}, nil, api.OK)
	wantClean(t, 1, edges{{0, 0}}, edges{{0, 0}}, api.OK)
	wantClean(t, 2, edges{{1, 0}}, edges{{1, 0}}, api.OK)
	wantClean(t, 2, edges{{1, 0}, {0, 1}}, edges{{0, 1}, {1, 0}}, api.OK)
	wantClean(t, 9, edges{{8, 8}, {0, 0}}, edges{{0, 0}, {8, 8}}, api.OK)
	wantClean(t, 3, edges{{2, 0}, {1, 2}, {0, 1}}, edges{{0, 1}, {1, 2}, {2, 0}}, api.OK)
	// The first end counts ahead of the second, and as a number: 10 is behind 9.
	wantClean(t, 11, edges{{10, 0}, {9, 10}, {9, 9}, {1, 10}, {0, 10}, {0, 9}, {2, 0}}, edges{{0, 9}, {0, 10}, {1, 10}, {2, 0}, {9, 9}, {9, 10}, {10, 0}}, api.OK)
}

func TestP101EachOnce(t *testing.T) {
	wantClean(t, 1, edges{{0, 0}, {0, 0}}, edges{{0, 0}}, api.OK)
	wantClean(t, 2, edges{{0, 1}, {0, 1}, {0, 1}}, edges{{0, 1}}, api.OK)
	wantClean(t, 2, edges{{0, 1}, {1, 0}, {0, 1}}, edges{{0, 1}, {1, 0}}, api.OK)
	wantClean(t, 3, edges{{2, 1}, {0, 2}, {2, 1}, {0, 1}, {0, 2}, {0, 1}, {2, 1}}, edges{{0, 1}, {0, 2}, {2, 1}}, api.OK)
	count := 0
	orders(edges{{1, 2}, {0, 1}, {0, 2}, {0, 1}, {2, 0}, {1, 2}, {1, 1}}, 0, func(l edges) {
		count++
		wantClean(t, 3, l, edges{{0, 1}, {0, 2}, {1, 1}, {1, 2}, {2, 0}}, api.OK)
	})
	if count != 5040 {
		t.Errorf("%d orders", count)
	}
}

func TestP101HowManyNodes(t *testing.T) {
	for _, n := range []int{-1, -2, -1000, 1001, 1002, 1 << 16, 1 << 31, 1 << 32, 1<<32 + 5, math.MaxInt, math.MinInt, math.MinInt + 5} {
		wantClean(t, n, nil, nil, api.ErrArg)
		wantClean(t, n, edges{}, nil, api.ErrArg)
		wantClean(t, n, edges{{0, 0}}, nil, api.ErrArg)
		wantClean(t, n, edges{{-1, -1}}, nil, api.ErrArg)
	}
	for _, n := range []int{0, 1, 2, 199, 200, 201, 999, 1000} {
		wantClean(t, n, nil, nil, api.OK)
	}
	wantClean(t, 1000, edges{{999, 0}, {0, 999}, {999, 999}, {0, 0}}, edges{{0, 0}, {0, 999}, {999, 0}, {999, 999}}, api.OK)
	wantClean(t, 999, edges{{998, 0}}, edges{{998, 0}}, api.OK)
	wantClean(t, 0, edges{{0, 0}}, nil, api.ErrArg)
}

// noNodes are some ends that are none of n nodes.
func noNodes(n int) []int {
	return []int{-1, n, n + 1, -2, -n, 1000, 1001, 1 << 32, -1 << 32, math.MaxInt, math.MinInt, math.MinInt + n}
}

func TestP101EndsThatAreNoNodes(t *testing.T) {
	for _, n := range []int{1, 2, 3, 7, 999} {
		for _, no := range noNodes(n) {
			wantClean(t, n, edges{{no, 0}}, nil, api.ErrArg)
			wantClean(t, n, edges{{0, no}}, nil, api.ErrArg)
			wantClean(t, n, edges{{no, no}}, nil, api.ErrArg)
			// Wherever such an edge stands among others.
			for at := range 4 {
				good := edges{{0, 0}, {0, n - 1}, {n - 1, 0}}
				wantClean(t, n, slices.Insert(slices.Clone(good), at, [2]int{no, n - 1}), nil, api.ErrArg)
				wantClean(t, n, slices.Insert(slices.Clone(good), at, [2]int{n - 1, no}), nil, api.ErrArg)
			}
		}
		wantClean(t, n, edges{{n - 1, 0}}, edges{{n - 1, 0}}, api.OK)
		wantClean(t, n, edges{{0, n - 1}}, edges{{0, n - 1}}, api.OK)
	}
	for _, no := range []int{0, -1, 1} {
		wantClean(t, 0, edges{{no, no}}, nil, api.ErrArg)
	}
	wantClean(t, 1000, edges{{1000, 0}}, nil, api.ErrArg)
	wantClean(t, 1000, edges{{0, 1000}}, nil, api.ErrArg)
}

func TestP101WhatIsToldIsTheCallersOwn(t *testing.T) {
	// Such as are in order already, and such as stand in memory just ahead of others.
	l := edges{{0, 1}, {1, 2}, {2, 0}, {2, 1}}
	wantClean(t, 3, l, l, api.OK)
	wantClean(t, 3, l[:1], edges{{0, 1}}, api.OK)
	wantClean(t, 3, l[1:3], edges{{1, 2}, {2, 0}}, api.OK)
	again := edges{{0, 1}, {0, 1}, {0, 1}, {1, 2}}
	wantClean(t, 3, again[:3], edges{{0, 1}}, api.OK)
	first, _ := graph.Clean(3, l)
	second, _ := graph.Clean(3, l)
	spoil(first, [2]int{-7, -7})
	if !slices.Equal(second, l) {
		t.Errorf("two answers share memory: %v", second)
	}
}

func TestP102NothingWithAnError(t *testing.T) {
	for _, x := range []struct {
		n int
		l edges
	}{{-1, nil}, {1001, nil}, {math.MinInt, nil}, {math.MaxInt, nil}, {0, edges{{0, 0}}}, {3, edges{{0, 3}}}, {3, edges{{3, 0}}}, {3, edges{{-1, 0}}}, {3, edges{{0, -1}}}, {3, edges{{0, 1}, {1, 2}, {1, 3}}}, {1000, edges{{0, 1000}}}} {
		for _, from := range []int{-1, 0, 1, 2, 3, math.MinInt, math.MaxInt} {
			if got := graph.Reach(x.n, x.l, from); len(got) != 0 {
				t.Errorf("Reach(%d, %v, %d): %v", x.n, x.l, from, got)
			}
			for _, to := range []int{from, 0, 1, 2, 3, -1} {
				if got := graph.Path(x.n, x.l, from, to); len(got) != 0 {
					t.Errorf("Path(%d, %v, %d, %d): %v", x.n, x.l, from, to, got)
				}
			}
		}
		if got := graph.Parts(x.n, x.l); len(got) != 0 {
			t.Errorf("Parts(%d, %v): %v", x.n, x.l, got)
		}
	}
}

func TestP102Reach(t *testing.T) {
	wantReached(t, 1, nil, 0, 0)
	wantReached(t, 3, nil, 1, 1)
	wantReached(t, 3, edges{{0, 2}, {2, 0}}, 1, 1)
	wantReached(t, 3, edges{{1, 1}}, 1, 1)
	wantReached(t, 3, edges{{0, 1}, {2, 1}}, 1, 1)
	wantReached(t, 2, edges{{0, 1}}, 0, 0, 1)
	wantReached(t, 2, edges{{0, 1}}, 1, 1)
	wantReached(t, 4, edges{{0, 1}, {0, 2}, {0, 3}}, 0, 0, 1, 2, 3)
	wantReached(t, 6, edges{{3, 1}, {0, 1}, {1, 2}, {2, 0}, {3, 4}, {4, 3}, {5, 5}}, 3, 0, 1, 2, 3, 4)
	wantReached(t, 6, edges{{3, 1}, {0, 1}, {1, 2}, {2, 0}, {3, 4}, {4, 3}, {5, 5}}, 0, 0, 1, 2)
	// Two ways that meet, and a way on from there.
	wantReached(t, 7, edges{{0, 2}, {0, 1}, {2, 3}, {1, 3}, {3, 4}, {5, 4}, {4, 6}}, 0, 0, 1, 2, 3, 4, 6)
}

func TestP102RingsAndLines(t *testing.T) {
	for _, n := range []int{1, 2, 3, 10, 100} {
		line, ring := edges{}, edges{}
		for i := range n {
			ring = append(ring, [2]int{i, (i + 1) % n})
		}
		line = ring[:n-1]
		for from := range n {
			all, behind := make([]bool, n), make([]bool, n)
			for i := range n {
				all[i], behind[i] = true, i >= from
			}
			wantReach(t, n, ring, from, all...)
			wantReach(t, n, line, from, behind...)
		}
		// A line from the last node to the first one.
		turned := edges{}
		for _, x := range line {
			turned = append(turned, [2]int{x[1], x[0]})
		}
		for from := range n {
			ahead := make([]bool, n)
			for i := range from + 1 {
				ahead[i] = true
			}
			wantReach(t, n, turned, from, ahead...)
		}
	}
}

func TestP102FromNoNode(t *testing.T) {
	for _, n := range []int{1, 2, 3, 7, 999} {
		for _, from := range noNodes(n) {
			wantReached(t, n, nil, from)
			wantReached(t, n, edges{{0, n - 1}, {n - 1, 0}, {0, 0}}, from)
		}
	}
	for _, from := range []int{-1, 0, 1} {
		wantReach(t, 0, nil, from)
	}
	wantReached(t, 1000, nil, 1000)
}

func TestP103Parts(t *testing.T) {
	wantParts(t, 0, nil)
	wantParts(t, 0, edges{})
	wantParts(t, 1, nil, []int{0})
	wantParts(t, 1, edges{{0, 0}}, []int{0})
	wantParts(t, 4, nil, []int{0}, []int{1}, []int{2}, []int{3})
	wantParts(t, 3, edges{{0, 1}, {1, 0}, {1, 2}}, []int{2}, []int{0, 1}) // the chapter's example
	wantParts(t, 2, edges{{0, 1}}, []int{1}, []int{0})
	wantParts(t, 2, edges{{1, 0}}, []int{0}, []int{1})
	wantParts(t, 2, edges{{1, 0}, {0, 1}}, []int{0, 1})
	// An edge from a node to itself makes no difference.
	wantParts(t, 3, edges{{0, 0}, {1, 1}, {2, 2}}, []int{0}, []int{1}, []int{2})
	wantParts(t, 3, edges{{0, 0}, {0, 1}, {1, 1}}, []int{1}, []int{0}, []int{2})
	wantParts(t, 3, edges{{0, 2}, {2, 2}, {2, 0}}, []int{0, 2}, []int{1})
}

func TestP103Rings(t *testing.T) {
	wantParts(t, 3, edges{{0, 1}, {1, 2}, {2, 0}}, []int{0, 1, 2})
	wantParts(t, 3, edges{{0, 2}, {2, 1}, {1, 0}}, []int{0, 1, 2})
	wantParts(t, 6, edges{{5, 2}, {2, 4}, {4, 0}, {0, 3}, {3, 1}, {1, 5}}, []int{0, 1, 2, 3, 4, 5})
	// Two rings, and an edge between them, either way.
	rings := edges{{0, 1}, {1, 0}, {2, 3}, {3, 2}}
	wantParts(t, 4, rings, []int{0, 1}, []int{2, 3})
	wantParts(t, 4, append(slices.Clone(rings), [2]int{1, 2}), []int{2, 3}, []int{0, 1})
	wantParts(t, 4, append(slices.Clone(rings), [2]int{0, 3}), []int{2, 3}, []int{0, 1})
	wantParts(t, 4, append(slices.Clone(rings), [2]int{2, 1}), []int{0, 1}, []int{2, 3})
	wantParts(t, 4, append(slices.Clone(rings), [2]int{3, 0}), []int{0, 1}, []int{2, 3})
	wantParts(t, 4, append(slices.Clone(rings), [2]int{1, 2}, [2]int{3, 0}), []int{0, 1, 2, 3})
	// Rings whose nodes stand between each other.
	wantParts(t, 4, edges{{0, 2}, {2, 0}, {1, 3}, {3, 1}}, []int{0, 2}, []int{1, 3})
	wantParts(t, 4, edges{{0, 2}, {2, 0}, {1, 3}, {3, 1}, {0, 3}}, []int{1, 3}, []int{0, 2})
	wantParts(t, 4, edges{{0, 3}, {3, 0}, {1, 2}, {2, 1}, {3, 2}}, []int{1, 2}, []int{0, 3})
	// Two rings that have a node in common.
	wantParts(t, 5, edges{{0, 4}, {4, 0}, {4, 2}, {2, 4}}, []int{0, 2, 4}, []int{1}, []int{3})
}

func TestP103TheLeastOneNext(t *testing.T) {
	// What leads to nothing isn't all told first: 1 stands as soon as its turn comes.
	wantParts(t, 3, edges{{0, 2}}, []int{1}, []int{2}, []int{0})
	wantParts(t, 3, edges{{0, 1}}, []int{1}, []int{0}, []int{2})
	wantParts(t, 3, edges{{1, 2}}, []int{0}, []int{2}, []int{1})
	wantParts(t, 4, edges{{0, 3}, {1, 2}}, []int{2}, []int{1}, []int{3}, []int{0})
	wantParts(t, 4, edges{{0, 2}, {1, 3}}, []int{2}, []int{0}, []int{3}, []int{1})
	wantParts(t, 4, edges{{2, 3}, {1, 3}, {0, 3}}, []int{3}, []int{0}, []int{1}, []int{2})
	wantParts(t, 4, edges{{3, 0}, {3, 1}, {3, 2}}, []int{0}, []int{1}, []int{2}, []int{3})
	wantParts(t, 4, edges{{0, 1}, {0, 2}, {0, 3}}, []int{1}, []int{2}, []int{3}, []int{0})
	// It waits for all to which a path leads, however long.
	wantParts(t, 5, edges{{0, 1}, {0, 4}, {4, 3}, {3, 2}}, []int{1}, []int{2}, []int{3}, []int{4}, []int{0})
	wantParts(t, 5, edges{{0, 4}, {1, 3}, {3, 4}}, []int{2}, []int{4}, []int{0}, []int{3}, []int{1})
	// The least node counts, not how many there are, nor the greatest, nor the one by which it was met.
	wantParts(t, 6, edges{{0, 5}, {5, 0}, {1, 2}, {2, 1}}, []int{0, 5}, []int{1, 2}, []int{3}, []int{4})
	wantParts(t, 6, edges{{1, 5}, {5, 1}, {2, 4}, {4, 2}, {0, 3}, {0, 4}, {0, 5}}, []int{1, 5}, []int{2, 4}, []int{3}, []int{0})
	// Lines of nodes: 1000 parts in either direction.
	up, down := edges{}, edges{}
	rising, falling := [][]int{}, [][]int{}
	for i := range 1000 {
		if i > 0 {
			up, down = append(up, [2]int{i - 1, i}), append(down, [2]int{i, i - 1})
		}
		rising, falling = append(rising, []int{i}), append(falling, []int{999 - i})
	}
	wantParts(t, 1000, up, falling...)
	wantParts(t, 1000, down, rising...)
	wantParts(t, 1000, nil, rising...)
}

func TestP103PartsOfManyGraphs(t *testing.T) {
	c := chance(103)
	for range 500 {
		n := 1 + c.below(25)
		l := c.edges(n, c.below(2*n))
		wantParts(t, n, l, plainParts(n, l)...)
	}
}

func TestP104Path(t *testing.T) {
	wantPath(t, 1, nil, 0, 0, 0)
	wantPath(t, 3, nil, 1, 1, 1)
	wantPath(t, 3, edges{{1, 1}}, 1, 1, 1)
	wantPath(t, 3, edges{{0, 1}, {1, 0}}, 1, 1, 1)
	wantPath(t, 2, edges{{0, 1}}, 0, 1, 0, 1)
	wantPath(t, 2, edges{{1, 0}}, 1, 0, 1, 0)
	wantPath(t, 4, edges{{0, 1}, {1, 2}, {2, 3}}, 0, 3, 0, 1, 2, 3)
	wantPath(t, 4, edges{{0, 1}, {1, 2}, {2, 3}, {3, 0}}, 2, 1, 2, 3, 0, 1)
	wantPath(t, 6, edges{{3, 1}, {0, 1}, {1, 2}, {2, 0}, {3, 4}, {4, 3}, {0, 1}, {5, 5}}, 4, 0, 4, 3, 1, 2, 0)
}

func TestP104TheShortest(t *testing.T) {
	// A way that is longer counts for nothing, however little its nodes are.
	wantPath(t, 4, edges{{0, 1}, {1, 2}, {2, 3}, {0, 3}}, 0, 3, 0, 3)
	wantPath(t, 5, edges{{0, 1}, {1, 2}, {2, 3}, {0, 4}, {4, 3}}, 0, 3, 0, 4, 3)
	wantPath(t, 5, edges{{4, 0}, {0, 1}, {1, 2}, {4, 3}, {3, 2}}, 4, 2, 4, 3, 2)
	wantPath(t, 6, edges{{0, 1}, {1, 2}, {2, 5}, {0, 4}, {4, 5}, {0, 3}, {3, 2}}, 0, 5, 0, 4, 5)
	wantPath(t, 6, edges{{0, 0}, {0, 1}, {1, 0}, {1, 2}, {2, 3}, {3, 4}, {4, 5}, {2, 5}}, 0, 5, 0, 1, 2, 5)
}

func TestP104TheLeastOfThese(t *testing.T) {
	wantPath(t, 4, edges{{0, 2}, {0, 1}, {2, 3}, {1, 3}}, 0, 3, 0, 1, 3)
	wantPath(t, 5, edges{{0, 3}, {0, 2}, {0, 1}, {3, 4}, {2, 4}, {1, 4}}, 0, 4, 0, 1, 4)
	wantPath(t, 4, edges{{3, 2}, {3, 1}, {2, 0}, {1, 0}}, 3, 0, 3, 1, 0)
	// Node by node, from the first one on: the last ones count least.
	wantPath(t, 6, edges{{0, 1}, {0, 2}, {1, 4}, {2, 3}, {3, 5}, {4, 5}}, 0, 5, 0, 1, 4, 5)
	wantPath(t, 8, edges{{0, 1}, {0, 2}, {1, 6}, {2, 3}, {6, 5}, {3, 4}, {5, 7}, {4, 7}}, 0, 7, 0, 1, 6, 5, 7)
	wantPath(t, 7, edges{{0, 1}, {1, 5}, {1, 4}, {5, 2}, {4, 3}, {2, 6}, {3, 6}}, 0, 6, 0, 1, 4, 3, 6)
	wantPath(t, 7, edges{{0, 1}, {1, 4}, {1, 5}, {4, 3}, {4, 2}, {5, 2}, {3, 6}, {2, 6}}, 0, 6, 0, 1, 4, 2, 6)
	// The least first node may lead on to the end on no shortest way.
	wantPath(t, 6, edges{{0, 1}, {1, 2}, {2, 5}, {0, 3}, {3, 5}, {0, 4}, {4, 5}}, 0, 5, 0, 3, 5)
	// As numbers: 9 is less than 10.
	wantPath(t, 12, edges{{0, 10}, {0, 9}, {10, 11}, {9, 11}}, 0, 11, 0, 9, 11)
}

func TestP104None(t *testing.T) {
	wantPath(t, 2, nil, 0, 1)
	wantPath(t, 2, edges{{1, 0}}, 0, 1)
	wantPath(t, 4, edges{{0, 1}, {1, 0}, {2, 3}, {3, 2}}, 0, 3)
	wantPath(t, 4, edges{{0, 1}, {1, 2}, {3, 2}}, 0, 3)
	for _, n := range []int{1, 2, 3, 7, 999} {
		for _, no := range noNodes(n) {
			l := edges{{0, n - 1}, {n - 1, 0}, {0, 0}}
			wantPath(t, n, l, no, 0)
			wantPath(t, n, l, 0, no)
			wantPath(t, n, l, n-1, no)
			wantPath(t, n, l, no, no)
			wantPath(t, n, nil, no, no)
		}
	}
	for _, no := range []int{-1, 0, 1} {
		wantPath(t, 0, nil, no, no)
	}
	wantPath(t, 1000, nil, 1000, 1000)
	wantPath(t, 1000, nil, 999, 999, 999)
}

func TestAllSmallGraphs(t *testing.T) {
	for n := range 4 {
		for which := range 1 << (n * n) {
			l := edges{}
			for i := range n * n {
				if which>>i&1 == 1 {
					l = append(l, [2]int{i % n, i / n})
				}
			}
			wantPlain(t, n, l)
		}
	}
	// Of four nodes those without edges from a node to itself.
	for which := range 1 << 12 {
		l := edges{}
		for i := range 12 {
			if which>>i&1 == 1 {
				l = append(l, [2]int{i / 3, (i/3 + 1 + i%3) % 4})
			}
		}
		wantPlain(t, 4, l)
	}
}

func TestManyGraphs(t *testing.T) {
	c := chance(10)
	for range 3000 {
		n := 1 + c.below(7)
		wantPlain(t, n, c.edges(n, c.below(2*n+1)))
	}
}

func TestTheOrderOfEdges(t *testing.T) {
	l := edges{{0, 1}, {1, 0}, {1, 2}, {2, 3}, {0, 3}, {1, 2}}
	orders(slices.Clone(l), 0, func(l edges) {
		wantClean(t, 4, l, edges{{0, 1}, {0, 3}, {1, 0}, {1, 2}, {2, 3}}, api.OK)
		wantReached(t, 4, l, 1, 0, 1, 2, 3)
		wantParts(t, 4, l, []int{3}, []int{2}, []int{0, 1})
		wantPath(t, 4, l, 1, 3, 1, 0, 3)
	})
	c := chance(3)
	for range 200 {
		n := 2 + c.below(40)
		l := c.edges(n, 2*n)
		clean, _ := graph.Clean(n, l)
		parts := graph.Parts(n, l)
		from, to := c.below(n), c.below(n)
		reached, path := graph.Reach(n, l, from), graph.Path(n, l, from, to)
		for range 5 {
			c.shuffle(l)
			l = append(l, l[c.below(len(l))])
			wantClean(t, n, l, clean, api.OK)
			wantReach(t, n, l, from, reached...)
			wantParts(t, n, l, parts...)
			wantPath(t, n, l, from, to, path...)
		}
	}
}

// steps are, of each node, how many edges lead to it from a node at least: -1, if it isn't reached.
func steps(n int, l edges, from int) []int {
	far := slices.Repeat([]int{-1}, n)
	far[from] = 0
	for step := range n {
		for _, x := range l {
			if far[x[0]] == step && far[x[1]] < 0 {
				far[x[1]] = step + 1
			}
		}
	}
	return far
}

// wantFollows holds what the chapter says to follow against graphs of any size.
func wantFollows(t *testing.T, n int, l edges, from int) {
	t.Helper()
	partOf := slices.Repeat([]int{-1}, n)
	parts := graph.Parts(n, l)
	for number, part := range parts {
		for _, node := range part {
			if partOf[node] >= 0 {
				t.Fatalf("%.300v: %d is in two parts of %.300v", l, node, parts)
			}
			partOf[node] = number
		}
	}
	if slices.Contains(partOf, -1) {
		t.Fatalf("%.300v: a node is in no part of %.300v", l, parts)
	}
	for _, x := range l {
		if partOf[x[0]] < partOf[x[1]] {
			t.Errorf("%.300v: %d leads to %d, which is of a part behind: %.300v", l, x[0], x[1], parts)
		}
	}
	reached := graph.Reach(n, l, from)
	for to, far := range steps(n, l, from) {
		path := graph.Path(n, l, from, to)
		if len(path) != far+1 {
			t.Errorf("%.300v: %v from %d to %d, want %d steps", l, path, from, to, far)
		}
		if reached[to] != (far >= 0) {
			t.Errorf("%.300v: %d reaches %d: %t, want %d steps", l, from, to, reached[to], far)
		}
		for i := 1; i < len(path); i++ {
			if !slices.Contains(l, [2]int{path[i-1], path[i]}) {
				t.Errorf("%.300v: %v has no edge at %d", l, path, i)
			}
		}
		if len(path) > 0 && (path[0] != from || path[len(path)-1] != to) {
			t.Errorf("%.300v: %v from %d to %d", l, path, from, to)
		}
	}
}

func TestP105WhatFollows(t *testing.T) {
	c := chance(105)
	for range 300 {
		n := 1 + c.below(60)
		l := c.edges(n, c.below(3*n))
		wantFollows(t, n, l, c.below(n))
	}
}

// ladder has steps of two nodes each, both of which lead to both of the next step.
func ladder(n int) edges {
	l := edges{}
	for a := 0; a+3 < n; a += 2 {
		l = append(l, [2]int{a + 1, a + 3}, [2]int{a + 1, a + 2}, [2]int{a, a + 3}, [2]int{a, a + 2})
	}
	return l
}

func TestGreatGraphs(t *testing.T) {
	all := edges{}
	for a := 999; a >= 0; a-- {
		for b := range 1000 {
			all = append(all, [2]int{a, b})
		}
	}
	got, e := graph.Clean(1000, append(all, all...))
	if len(got) != 1000000 || e != api.OK || !slices.IsSortedFunc(got, func(a, b [2]int) int { return slices.Compare(a[:], b[:]) }) {
		t.Errorf("%d, %d", len(got), e)
	}
	if parts := graph.Parts(1000, all); len(parts) != 1 || len(parts[0]) != 1000 || parts[0][999] != 999 {
		t.Errorf("%.300v", parts)
	}
	wantPath(t, 1000, all, 999, 5, 999, 5)
	// A part for each node, with an edge to each node ahead of it.
	under := slices.DeleteFunc(all, func(x [2]int) bool { return x[0] <= x[1] })
	if parts := graph.Parts(1000, under); len(parts) != 1000 || parts[0][0] != 0 || parts[999][0] != 999 {
		t.Errorf("%.300v", parts)
	}
	// A ring through all nodes, and as many shortest ways as no one could count.
	ring, want := edges{}, []int{}
	for i := range 1000 {
		ring = append(ring, [2]int{i, (i + 1) % 1000})
		want = append(want, i)
	}
	wantParts(t, 1000, ring, want)
	wantPath(t, 1000, ring, 0, 999, want...)
	even := []int{0}
	for a := 2; a < 998; a += 2 {
		even = append(even, a)
	}
	wantPath(t, 1000, ladder(1000), 0, 999, append(even, 999)...)
}

func TestNothingIsKept(t *testing.T) {
	// Answers of calls between which others are made are those of the first time.
	for range 2 {
		wantParts(t, 3, edges{{0, 1}, {1, 0}, {1, 2}}, []int{2}, []int{0, 1})
		wantReached(t, 3, edges{{0, 1}}, 0, 0, 1)
		wantReached(t, 3, nil, 0, 0)
		wantPath(t, 3, edges{{0, 1}, {1, 2}}, 0, 2, 0, 1, 2)
		wantPath(t, 3, edges{{0, 1}}, 0, 2)
		wantClean(t, 3, edges{{2, 2}}, edges{{2, 2}}, api.OK)
		wantClean(t, 3, edges{{2, 3}}, nil, api.ErrArg)
		wantParts(t, 2, nil, []int{0}, []int{1})
	}
}

func FuzzGraph(f *testing.F) {
	f.Add(3, []byte{0, 1, 1, 0, 1, 2})
	f.Add(4, []byte{0, 2, 0, 1, 2, 3, 1, 3})
	f.Add(6, []byte{3, 1, 0, 1, 1, 2, 2, 0, 3, 4, 4, 3, 0, 1, 5, 5})
	f.Add(-1, []byte{})
	f.Add(0, []byte{0, 0})
	f.Add(1001, []byte{0, 0})
	f.Fuzz(func(t *testing.T, n int, ends []byte) {
		l := edges{}
		may := n >= 0 && n <= 1000
		for i := 0; i+1 < len(ends); i += 2 {
			a, b := int(int8(ends[i])), int(int8(ends[i+1]))
			may = may && a >= 0 && a < n && b >= 0 && b < n
			l = append(l, [2]int{a, b})
		}
		if !may {
			wantClean(t, n, l, nil, api.ErrArg)
			if len(graph.Reach(n, l, 0))+len(graph.Parts(n, l))+len(graph.Path(n, l, 0, 0)) > 0 {
				t.Errorf("%d, %v: something is told", n, l)
			}
		} else if n <= 7 {
			wantPlain(t, n, l)
		} else if n <= 50 {
			wantFollows(t, n, l, n/2)
			wantParts(t, n, l, plainParts(n, l)...)
		}
	})
}

func ExampleParts() {
	l := [][2]int{{0, 1}, {1, 0}, {1, 2}}
	fmt.Println(graph.Parts(3, l), graph.Path(3, l, 0, 2), graph.Reach(3, l, 2))
	// Output: [[2] [0 1]] [0 1 2] [false false true]
}
