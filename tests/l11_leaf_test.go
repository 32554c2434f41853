package tests

import (
	"fmt"
	"slices"
	"testing"

	"loop.example/g00050/impl"
)

func TestLeavesByHand(t *testing.T) {
	for _, row := range []struct {
		row  []int64
		want []impl.Leaf
	}{
		{nil, nil},
		{[]int64{}, nil},
		{[]int64{0}, nil},
		{[]int64{1}, []impl.Leaf{leafOf(0, 1, 1)}},
		{[]int64{1000}, []impl.Leaf{leafOf(0, 1, 1000)}},
		{[]int64{0, 0, 0}, nil},
		{[]int64{4, 4, 4}, []impl.Leaf{leafOf(0, 3, 4)}},
		{[]int64{1, 2, 3}, []impl.Leaf{leafOf(0, 3, 1), leafOf(1, 3, 1), leafOf(2, 3, 1)}},
		{[]int64{3, 2, 1}, []impl.Leaf{leafOf(0, 1, 1), leafOf(0, 2, 1), leafOf(0, 3, 1)}},
		{[]int64{0, 2, 0, 0, 3, 0}, []impl.Leaf{leafOf(1, 2, 2), leafOf(4, 5, 3)}},
		{[]int64{2, 0, 2}, []impl.Leaf{leafOf(0, 1, 2), leafOf(2, 3, 2)}},
		// The first that opens is the first that shuts: no opening lies within another one.
		{[]int64{1, 2, 1}, []impl.Leaf{leafOf(0, 2, 1), leafOf(1, 3, 1)}},
		{[]int64{2, 5, 1}, []impl.Leaf{leafOf(0, 2, 2), leafOf(1, 2, 2), leafOf(1, 3, 1)}},
		{[]int64{5, 2, 4, 4}, []impl.Leaf{leafOf(0, 1, 3), leafOf(0, 4, 2), leafOf(2, 4, 2)}},
		{[]int64{3, 1, 3}, []impl.Leaf{leafOf(0, 1, 2), leafOf(0, 3, 1), leafOf(2, 3, 2)}},
		{[]int64{1000, 999, 1000}, []impl.Leaf{leafOf(0, 1, 1), leafOf(0, 3, 999), leafOf(2, 3, 1)}},
		{[]int64{0, 0, 7}, []impl.Leaf{leafOf(2, 3, 7)}},
		{[]int64{7, 0, 0}, []impl.Leaf{leafOf(0, 1, 7)}},
	} {
		wantLeaves(t, row.row, impl.Leaves(row.row), row.want)
	}
}

// wantPlan asks all of promise 14 that one row can tell.
func wantPlan(t *testing.T, row []int64) {
	t.Helper()
	leaves := impl.Leaves(row)
	wantLeaves(t, brief(row), leaves, plainLeaves(row))
	wantLists(t, "given", impl.Given(leaves, int64(len(row))), row)
	wantNumber(t, brief(row), impl.LeafUnits(leaves), allSteps(row, 1))
	wantNumber(t, brief(row), impl.LeafUnits(leaves), allSteps(row, -1))
	for i := range leaves {
		if i > 0 && leaves[i].Left == leaves[i-1].Left && leaves[i].Right == leaves[i-1].Right {
			t.Error("two leaves for one", brief(row), leaves)
		}
	}
}

func TestLeavesOfAllSmallRows(t *testing.T) {
	for n := range 6 {
		for _, row := range listsOf(n, 0, 4) {
			wantPlan(t, row)
		}
	}
}

func TestLeavesOfManyRows(t *testing.T) {
	m := mixer(200)
	for _, n := range []int{1, 2, 3, 10, 31, 63, 64} {
		for _, most := range []int64{1, 3, 20, 1000} {
			for range 6 {
				row := m.list(n, 0, most)
				wantPlan(t, row)
				// Noughts between, and stretches that stay.
				for at := range row {
					if at > 0 && m.pick(0, 2) == 0 {
						row[at] = row[at-1] * m.pick(0, 1)
					}
				}
				wantPlan(t, row)
				slices.Sort(row)
				wantPlan(t, row)
				slices.Reverse(row)
				wantPlan(t, row)
			}
		}
	}
}

// combOf has 1000 and 0 by turns: a row of 64 with the most steps.
func combOf(n int) []int64 {
	row := make([]int64, n)
	for at := range row {
		row[at] = 1000 * int64(1-at%2)
	}
	return row
}

func TestLeavesAtTheLimits(t *testing.T) {
	comb := combOf(64)
	wantPlan(t, comb)
	wantNumber(t, "units of a comb", impl.LeafUnits(impl.Leaves(comb)), 32000)
	wantPlan(t, slices.Repeat([]int64{1000}, 64))
	wantPlan(t, make([]int64, 64))
	for _, row := range [][]int64{combOf(65), make([]int64, 65), slices.Repeat([]int64{1}, 65), make([]int64, 1000)} {
		wantLeaves(t, len(row), impl.Leaves(row), nil)
	}
	for _, n := range []int{1, 2, 3, 64} {
		for _, at := range []int{0, n / 2, n - 1} {
			for _, number := range edges(0, 1000) {
				row := slices.Repeat([]int64{5}, n)
				row[at] = number
				if liesFrom(number, 0, 1000) {
					wantPlan(t, row)
				} else {
					wantLeaves(t, []any{n, at, number}, impl.Leaves(row), nil)
				}
			}
		}
	}
	for _, row := range [][]int64{{leastInt, mostInt}, {mostInt, leastInt}, {mostInt, mostInt}, {leastInt, leastInt}, {0, -1, 0}, {-5, -4}, {1000, 2000, 1000}} {
		wantLeaves(t, row, impl.Leaves(row), nil)
	}
}

// fewestUnits goes from the row of noughts to all rows of n numbers up to most, one opening at a time, and tells after how many each row is first met.
func fewestUnits(n int, most int64) map[string]int64 {
	units := map[string]int64{fmt.Sprint(make([]int64, n)): 0}
	now := [][]int64{make([]int64, n)}
	for step := int64(1); len(now) > 0; step++ {
		var next [][]int64
		for _, row := range now {
			for left := range n {
				for right := left + 1; right <= n; right++ {
					wider := slices.Clone(row)
					for at := left; at < right; at++ {
						wider[at]++
					}
					name := fmt.Sprint(wider)
					if _, met := units[name]; !met && slices.Max(wider) <= most {
						units[name] = step
						next = append(next, wider)
					}
				}
			}
		}
		now = next
	}
	return units
}

func TestNoLeavesHaveFewerUnits(t *testing.T) {
	for _, size := range []struct {
		n    int
		most int64
	}{{1, 5}, {2, 5}, {3, 4}, {4, 3}, {5, 3}, {6, 2}} {
		fewest := fewestUnits(size.n, size.most)
		for _, row := range listsOf(size.n, 0, size.most) {
			wantNumber(t, row, impl.LeafUnits(impl.Leaves(row)), fewest[fmt.Sprint(row)])
		}
	}
	// Leaves of any kind give a row for which the ones of Leaves are no more.
	m := mixer(201)
	for range 500 {
		n := m.pick(1, 64)
		leaves := m.leaves(int(m.pick(0, 12)), n, m.pick(1, 80))
		row := impl.Given(leaves, n)
		own := impl.Leaves(row)
		wantLists(t, leaves, impl.Given(own, n), row)
		if impl.LeafUnits(own) > impl.LeafUnits(leaves) || impl.LeafUnits(leaves) > 0 && len(own) == 0 {
			t.Error(leaves, own)
		}
	}
}

func TestGivenByHand(t *testing.T) {
	for _, row := range []struct {
		leaves []impl.Leaf
		n      int64
		want   []int64
		units  int64
	}{
		{nil, 0, nil, 0},
		{nil, 1, []int64{0}, 0},
		{nil, 3, []int64{0, 0, 0}, 0},
		{[]impl.Leaf{}, 2, []int64{0, 0}, 0},
		{[]impl.Leaf{leafOf(0, 1, 7)}, 1, []int64{7}, 7},
		{[]impl.Leaf{leafOf(0, 1, 7)}, 3, []int64{7, 0, 0}, 7},
		{[]impl.Leaf{leafOf(2, 3, 7)}, 3, []int64{0, 0, 7}, 7},
		{[]impl.Leaf{leafOf(1, 3, 7), leafOf(0, 2, 5)}, 4, []int64{5, 12, 7, 0}, 12},
		{[]impl.Leaf{leafOf(0, 4, 1), leafOf(1, 3, 1), leafOf(0, 4, 1)}, 4, []int64{2, 3, 3, 2}, 3},
		// What is given may be above what a row wants.
		{[]impl.Leaf{leafOf(0, 1, 1000), leafOf(0, 2, 1000)}, 2, []int64{2000, 1000}, 2000},
	} {
		wantLists(t, row, impl.Given(row.leaves, row.n), row.want)
		wantNumber(t, row, impl.LeafUnits(row.leaves), row.units)
	}
}

func TestGivenPlainly(t *testing.T) {
	m := mixer(202)
	for range 2000 {
		n := m.pick(1, 64)
		leaves := m.leaves(int(m.pick(0, 9)), n, 1000)
		for _, own := range []int64{n, n + 1, n - 1, 64, 65, 0} {
			wantLists(t, []any{leaves, own}, impl.Given(leaves, own), plainGiven(leaves, own))
		}
		wantNumber(t, leaves, impl.LeafUnits(leaves), plainUnits(leaves))
	}
	for _, numbers := range listsOf(3, -1, 4) {
		leaves := []impl.Leaf{leafOf(0, 1, 1), leafOf(numbers[0], numbers[1], numbers[2])}
		for n := int64(-1); n <= 4; n++ {
			wantLists(t, []any{leaves, n}, impl.Given(leaves, n), plainGiven(leaves, n))
		}
		wantNumber(t, leaves, impl.LeafUnits(leaves), plainUnits(leaves))
	}
}

func TestGivenLengths(t *testing.T) {
	for _, n := range edges(0, 64) {
		got := impl.Given(nil, n)
		if liesFrom(n, 0, 64) {
			wantLists(t, n, got, make([]int64, n))
		} else {
			wantLists(t, n, got, nil)
		}
	}
	one := []impl.Leaf{leafOf(0, 1, 1)}
	for _, n := range []int64{0, -1, 65, leastInt, mostInt, 1 << 32, 1<<32 + 1} {
		wantLists(t, n, impl.Given(one, n), nil)
	}
	wantLists(t, "all open", impl.Given([]impl.Leaf{leafOf(0, 64, 9)}, 64), slices.Repeat([]int64{9}, 64))
	wantLists(t, "one past 64", impl.Given([]impl.Leaf{leafOf(0, 65, 9)}, 65), nil)
}

// No leaves give more than 64000 times 1000, which is below MaxPix: the greatest number that can be is told.
func TestGivenOfMostLeaves(t *testing.T) {
	most := slices.Repeat([]impl.Leaf{leafOf(0, 64, 1000)}, 64000)
	wantLists(t, "64000 leaves", impl.Given(most, 64), slices.Repeat([]int64{64000000}, 64))
	wantNumber(t, "64000 leaves", impl.LeafUnits(most), 64000000)
	if impl.MaxLeaves*impl.MaxFluence > impl.MaxPix {
		t.Error("leaves may pass MaxPix")
	}
	wantLists(t, "63999 leaves", impl.Given(most[1:], 64), slices.Repeat([]int64{63999000}, 64))
	more := append(most, leafOf(3, 4, 1))
	wantLists(t, "64001 leaves", impl.Given(more, 64), nil)
	wantNumber(t, "64001 leaves", impl.LeafUnits(more), 0)
	narrow := slices.Repeat([]impl.Leaf{leafOf(0, 1, 1)}, 64001)
	wantLists(t, "narrow leaves", impl.Given(narrow, 1), nil)
	wantLists(t, "narrow leaves", impl.Given(narrow[1:], 1), []int64{64000})
	wantNumber(t, "narrow leaves", impl.LeafUnits(narrow), 0)
	wantNumber(t, "narrow leaves", impl.LeafUnits(narrow[1:]), 64000)
	// One that is none, among the last.
	wrong := slices.Clone(most)
	wrong[63999] = leafOf(5, 5, 1)
	wantLists(t, "the last is none", impl.Given(wrong, 64), nil)
	wantNumber(t, "the last is none", impl.LeafUnits(wrong), 0)
}

func TestLeafLimits(t *testing.T) {
	ask := func(leaf impl.Leaf, n int64) {
		t.Helper()
		for _, leaves := range [][]impl.Leaf{{leaf}, {leafOf(0, 1, 1), leaf}, {leaf, leafOf(0, 1, 1)}} {
			wantLists(t, []any{leaves, n}, impl.Given(leaves, n), plainGiven(leaves, n))
			wantNumber(t, leaves, impl.LeafUnits(leaves), plainUnits(leaves))
		}
	}
	for _, n := range []int64{1, 2, 63, 64} {
		for _, number := range append(edges(0, n), edges(1, 1000)...) {
			ask(leafOf(number, n, 1), n)
			ask(leafOf(number, number, 1), n)
			ask(leafOf(number, number+1, 1), n)
			ask(leafOf(0, number, 1), n)
			ask(leafOf(n-1, number, 1), n)
			ask(leafOf(0, n, number), n)
		}
	}
	for _, leaf := range []impl.Leaf{leafOf(3, 3, 1), leafOf(4, 3, 1), leafOf(0, 0, 1), leafOf(64, 64, 1), leafOf(0, 65, 1), leafOf(64, 65, 1), leafOf(-1, 1, 1), leafOf(0, 1, 0), leafOf(0, 1, -1), leafOf(0, 1, 1001), {}, leafOf(leastInt, mostInt, 1), leafOf(mostInt, leastInt, 1), leafOf(leastInt, leastInt+1, 1), leafOf(mostInt-1, mostInt, 1), leafOf(0, leastInt, 1), leafOf(mostInt, 1, 1), leafOf(0, 1, leastInt), leafOf(0, 1, mostInt)} {
		wantLists(t, leaf, impl.Given([]impl.Leaf{leaf}, 64), nil)
		wantNumber(t, leaf, impl.LeafUnits([]impl.Leaf{leaf}), 0)
	}
	for _, leaf := range []impl.Leaf{leafOf(0, 1, 1), leafOf(63, 64, 1000), leafOf(0, 64, 1000), leafOf(62, 64, 999)} {
		wantNumber(t, leaf, impl.LeafUnits([]impl.Leaf{leaf}), leaf.Units)
	}
}

func TestDeliverByHand(t *testing.T) {
	for _, row := range []struct {
		kernel, row, want []int64
	}{
		{[]int64{1, 2, 0, 1}, []int64{3, 4}, []int64{11, 4}},
		{[]int64{5, 0, 7}, []int64{3}, []int64{15, 0, 21}},
		{[]int64{1, 2, 3}, []int64{100, 10, 1}, []int64{123}},
		{[]int64{1, 2, 3, 4, 5, 6}, []int64{100, 10, 1}, []int64{123, 456}},
		{[]int64{1, 2, 3, 4, 5, 6}, []int64{10, 1}, []int64{12, 34, 56}},
		{nil, []int64{3, 4}, nil},
		{[]int64{}, []int64{3}, nil},
		{nil, nil, nil},
		{[]int64{1}, nil, nil},
		{[]int64{1, 2}, []int64{}, nil},
		{[]int64{1, 2, 3}, []int64{3, 4}, nil},
		{[]int64{1}, []int64{3, 4}, nil},
		{[]int64{1, 2, 3, 4}, []int64{1, 1, 1}, nil},
	} {
		wantLists(t, row, impl.Deliver(row.kernel, row.row), row.want)
	}
}

func TestDeliverPlainly(t *testing.T) {
	m := mixer(203)
	for range 1000 {
		n := int(m.pick(1, 9))
		kernel, row := m.list(n*int(m.pick(0, 12)), 0, 1000), m.list(n, 0, 1000)
		wantLists(t, row, impl.Deliver(kernel, row), plainDeliver(kernel, row))
		kernel = m.list(int(m.pick(0, 30)), 0, 1000)
		wantLists(t, row, impl.Deliver(kernel, row), plainDeliver(kernel, row))
	}
}

func TestDeliverAtTheLimits(t *testing.T) {
	full := slices.Repeat([]int64{1000}, 64)
	greatest := slices.Repeat([]int64{1000}, 64*1024)
	wantLists(t, "1024 voxels", impl.Deliver(greatest, full), slices.Repeat([]int64{64000000}, 1024))
	wantLists(t, "1025 voxels", impl.Deliver(append(greatest, full...), full), nil)
	wantLists(t, "1024 voxels and a half", impl.Deliver(append(greatest, full[:32]...), full), nil)
	wantLists(t, "no multiple", impl.Deliver(greatest[1:], full), nil)
	wantLists(t, "65 numbers", impl.Deliver(make([]int64, 65), make([]int64, 65)), nil)
	wantLists(t, "64 numbers", impl.Deliver(make([]int64, 64), make([]int64, 64)), []int64{0})
	narrow := slices.Repeat([]int64{1}, 1025)
	wantLists(t, "narrow", impl.Deliver(narrow[:1024], []int64{2}), slices.Repeat([]int64{2}, 1024))
	wantLists(t, "narrow", impl.Deliver(narrow, []int64{2}), nil)
	for _, number := range edges(0, 1000) {
		for at := range 6 {
			kernel := []int64{1, 2, 3, 4, 5, 6}
			kernel[at] = number
			wantLists(t, kernel, impl.Deliver(kernel, []int64{7, 0}), plainDeliver(kernel, []int64{7, 0}))
		}
		for at := range 2 {
			row := []int64{7, 9}
			row[at] = number
			wantLists(t, row, impl.Deliver([]int64{1, 2, 0, 4}, row), plainDeliver([]int64{1, 2, 0, 4}, row))
			wantLists(t, row, impl.Deliver(nil, row), nil)
		}
	}
	for _, wrong := range []int64{-1, 1001, leastInt, mostInt} {
		wantLists(t, wrong, impl.Deliver([]int64{wrong}, []int64{1}), nil)
		wantLists(t, wrong, impl.Deliver([]int64{1}, []int64{wrong}), nil)
		wantLists(t, wrong, impl.Deliver([]int64{wrong}, []int64{0}), nil)
	}
	wantLists(t, "the last is wrong", impl.Deliver(append(greatest[:64*1024-1:64*1024-1], 1001), full), nil)
}
