package graph_test

import (
	"math"
	"math/rand/v2"
	"slices"
	"testing"

	"shackle/graph"
)

func TestScope(t *testing.T) {
	for _, c := range []struct {
		deps        [][]int
		roots, want []int
	}{
		{[][]int{{1, 2}, {3}, {3}, {}}, []int{0}, []int{0, 1, 2, 3}},
		{[][]int{{2, 1}, {3}, {4, 3}, {}, {1}, {}}, []int{0}, []int{0, 2, 1, 4, 3}},
		{[][]int{{1}, {0}}, []int{1, 0, 1}, []int{1, 0}}, {[][]int{{0}}, []int{0}, []int{0}}, {[][]int{{}, {}, {}}, []int{2, 0, 2}, []int{2, 0}},
		{[][]int{{-1, 9, 1, math.MaxInt, 1}, {2, math.MinInt}, nil}, []int{-1, 3, 0}, []int{0, 1, 2}},
		{nil, []int{0}, nil}, {[][]int{{1}, {}}, nil, nil},
	} {
		if l := graph.Scope(c.deps, c.roots); !slices.Equal(l, c.want) {
			t.Errorf("P16.1: Scope(%v, %v): %v, not %v", c.deps, c.roots, l, c.want)
		}
	}
}

func TestBegin(t *testing.T) {
	for _, c := range []struct {
		deps        [][]int
		roots, want []int
	}{
		{[][]int{{1, 2}, {3}, {3}, {}}, []int{0}, []int{3, 1, 2, 0}}, {[][]int{{1}, {0}}, []int{0}, []int{1, 0}}, {[][]int{{1}, {0}}, []int{1}, []int{0, 1}}, {[][]int{{0}}, []int{0, 0}, []int{0}},
		{[][]int{{1, 2}, {}, {1}}, []int{0}, []int{1, 2, 0}}, {[][]int{{2, 1}, {}, {1}}, []int{0}, []int{1, 2, 0}}, {[][]int{{}, {}, {0}}, []int{1, 2}, []int{1, 0, 2}},
		{[][]int{{1}, {2, 3}, {0}, {1}}, []int{0}, []int{2, 3, 1, 0}}, {[][]int{{1}, {2, 3}, {0}, {1}}, []int{3, 2}, []int{0, 2, 1, 3}},
		{[][]int{{-1, 7, 1}, {math.MaxInt}}, []int{5, -2, 0}, []int{1, 0}}, {nil, []int{0}, nil}, {[][]int{{}}, nil, nil},
	} {
		if l := graph.Begin(c.deps, c.roots); !slices.Equal(l, c.want) {
			t.Errorf("P16.2: Begin(%v, %v): %v, not %v", c.deps, c.roots, l, c.want)
		}
	}
}

func TestLive(t *testing.T) {
	for _, c := range []struct {
		deps   [][]int
		counts []int
		want   []bool
	}{
		{[][]int{{1}, {}, {1}}, []int{0, 0, 1}, []bool{false, true, true}}, {[][]int{{1}, {2}, {0}, {}}, []int{0, 5}, []bool{true, true, true, false}}, {[][]int{{1}, {}}, []int{-1, 0}, []bool{false, false}},
		{[][]int{{1, 9, -1}, {}}, []int{1, 0, 7}, []bool{true, true}}, {[][]int{{}, {}}, nil, []bool{false, false}}, {nil, []int{1}, nil}, {[][]int{{}, {}}, []int{math.MinInt, 1}, []bool{false, true}},
	} {
		if l := graph.Live(c.deps, c.counts); !slices.Equal(l, c.want) {
			t.Errorf("P16.3: Live(%v, %v): %v, not %v", c.deps, c.counts, l, c.want)
		}
	}
}

func TestLoop(t *testing.T) {
	for _, c := range []struct {
		deps [][]int
		want bool
	}{
		{nil, false}, {[][]int{{}}, false}, {[][]int{{0}}, true}, {[][]int{{1}, {0}}, true}, {[][]int{{1, 2}, {3}, {3}, {}}, false}, {[][]int{{1, 2}, {3}, {3}, {2}}, true},
		{[][]int{{}, {2}, {3}, {1}}, true}, {[][]int{{1, 1}, {}}, false}, {[][]int{{-1, 5}, {9}}, false}, {[][]int{{1, 2}, {2}, {}}, false},
	} {
		if graph.Loop(c.deps) != c.want {
			t.Errorf("P16.4: Loop(%v)", c.deps)
		}
	}
}

// TestLong: a chain of any length is walked.
func TestLong(t *testing.T) {
	const n = 300000
	deps := make([][]int, n)
	for i := range n - 1 {
		deps[i] = []int{i + 1}
	}
	if l := graph.Begin(deps, []int{0}); len(l) != n || l[0] != n-1 || l[n-1] != 0 {
		t.Errorf("P16.2: %d", len(l))
	}
	if graph.Loop(deps) {
		t.Error("P16.4: a chain is no ring")
	}
	deps[n-1] = []int{0}
	if !graph.Loop(deps) || len(graph.Scope(deps, []int{7})) != n {
		t.Error("P16.4: a long ring")
	}
}

// reached is which objects are reached from one, by one step at least.
func reached(deps [][]int, from int) []bool {
	seen := make([]bool, len(deps))
	for more := true; more; {
		more = false
		for i := range deps {
			if i != from && !seen[i] {
				continue
			}
			for _, d := range deps[i] {
				if d >= 0 && d < len(deps) && !seen[d] {
					seen[d], more = true, true
				}
			}
		}
	}
	return seen
}

// TestAlike: Scope, Begin and Live have the same members; without a ring every object is begun behind all that it depends on; a count more loses nothing.
func TestAlike(t *testing.T) {
	c := rand.New(rand.NewPCG(7, 8))
	for range 2000 {
		n := 1 + c.IntN(7)
		deps := make([][]int, n)
		for i := range deps {
			for range c.IntN(4) {
				deps[i] = append(deps[i], c.IntN(n+2)-1)
			}
		}
		counts := make([]int, n)
		var roots []int
		for range c.IntN(3) {
			i := c.IntN(n)
			counts[i]++
			roots = append(roots, i)
		}
		alike(t, deps, roots, counts)
		ring := false
		for i := range deps {
			ring = ring || reached(deps, i)[i]
		}
		if graph.Loop(deps) != ring {
			t.Errorf("P16.4: Loop(%v)", deps)
		}
		if !ring {
			ordered(t, deps, graph.Begin(deps, roots))
		}
	}
}

func alike(t *testing.T, deps [][]int, roots, counts []int) {
	scope, begin, live := graph.Scope(deps, roots), graph.Begin(deps, roots), graph.Live(deps, counts)
	var want []int
	for i := range live {
		held := counts[i] > 0
		for j := range deps {
			held = held || counts[j] > 0 && reached(deps, j)[i]
		}
		if live[i] != held {
			t.Errorf("P16.3: Live(%v, %v): %v", deps, counts, live)
		}
		if held {
			want = append(want, i)
		}
	}
	slices.Sort(scope)
	slices.Sort(begin)
	if !slices.Equal(scope, want) || !slices.Equal(begin, want) {
		t.Errorf("P16.5: %v from %v: %v, %v, %v", deps, roots, scope, begin, live)
	}
	for i := range counts {
		counts[i]++
		for j, more := range graph.Live(deps, counts) {
			if live[j] && !more {
				t.Errorf("P16.5: %v: a count more of %d loses %d", deps, i, j)
			}
		}
		counts[i]--
	}
}

func ordered(t *testing.T, deps [][]int, l []int) {
	for at, i := range l {
		for _, d := range deps[i] {
			if slices.Index(l, d) > at {
				t.Errorf("P16.5: %v: %v begins %d ahead of %d", deps, l, i, d)
			}
		}
	}
}
