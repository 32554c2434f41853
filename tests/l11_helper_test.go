package tests

import (
	"slices"
	"testing"

	"loop.example/g00050/impl"
)

func leafOf(left, right, units int64) impl.Leaf {
	return impl.Leaf{Left: left, Right: right, Units: units}
}

func goalOf(kind, organ, level, count int64) impl.Goal {
	return impl.Goal{Kind: kind, Organ: organ, Level: level, Count: count}
}

// boundOf has b behind the numbers of A, as a bound is told.
func boundOf(b int64, a ...int64) impl.Bound { return impl.Bound{A: a, B: b} }

func liesFrom(n, least, most int64) bool { return n >= least && n <= most }

func allLieFrom(list []int64, least, most int64) bool {
	for _, n := range list {
		if !liesFrom(n, least, most) {
			return false
		}
	}
	return true
}

func isFluence(row []int64) bool { return len(row) <= 64 && allLieFrom(row, 0, 1000) }

// stepsAt is how many ones a row steps at a place, up (sign 1) or down (sign -1).
func stepsAt(row []int64, place int, sign int64) int64 {
	here, ahead := int64(0), int64(0)
	if place < len(row) {
		here = row[place]
	}
	if place > 0 {
		ahead = row[place-1]
	}
	return max(0, sign*(here-ahead))
}

func allSteps(row []int64, sign int64) int64 {
	sum := int64(0)
	for place := range len(row) + 1 {
		sum += stepsAt(row, place, sign)
	}
	return sum
}

// placeOfStep is where step number k of a row is.
func placeOfStep(row []int64, k, sign int64) int64 {
	for place := range len(row) + 1 {
		k -= stepsAt(row, place, sign)
		if k < 0 {
			return int64(place)
		}
	}
	return -1
}

func plainLeaves(row []int64) []impl.Leaf {
	if !isFluence(row) {
		return nil
	}
	var leaves []impl.Leaf
	for k := range allSteps(row, 1) {
		left, right := placeOfStep(row, k, 1), placeOfStep(row, k, -1)
		if n := len(leaves); n > 0 && leaves[n-1].Left == left && leaves[n-1].Right == right {
			leaves[n-1].Units++
		} else {
			leaves = append(leaves, leafOf(left, right, 1))
		}
	}
	return leaves
}

func areLeavesOf(leaves []impl.Leaf, n int64) bool {
	for _, leaf := range leaves {
		if leaf.Left < 0 || leaf.Left >= leaf.Right || leaf.Right > n || !liesFrom(leaf.Units, 1, 1000) {
			return false
		}
	}
	return liesFrom(n, 0, 64) && len(leaves) <= 64000
}

func plainGiven(leaves []impl.Leaf, n int64) []int64 {
	if !areLeavesOf(leaves, n) {
		return nil
	}
	row := []int64{}
	for place := range n {
		sum := int64(0)
		for _, leaf := range leaves {
			if leaf.Left <= place && place < leaf.Right {
				sum += leaf.Units
			}
		}
		row = append(row, sum)
	}
	return row
}

func plainUnits(leaves []impl.Leaf) int64 {
	sum := int64(0)
	if areLeavesOf(leaves, 64) {
		for _, leaf := range leaves {
			sum += leaf.Units
		}
	}
	return sum
}

func plainDeliver(kernel, row []int64) []int64 {
	n := len(row)
	if !isFluence(row) || n == 0 || len(kernel)%n != 0 || len(kernel) > 1024*n || !allLieFrom(kernel, 0, 1000) {
		return nil
	}
	dose := make([]int64, len(kernel)/n)
	for i := range dose {
		for k := range row {
			dose[i] += kernel[i*n+k] * row[k]
		}
	}
	return dose
}

func isGoal(g impl.Goal) bool {
	right := liesFrom(g.Level, 0, 1000000000) && liesFrom(g.Count, 0, 1024)
	switch g.Kind {
	case 1, 2:
		return right && g.Count == 0
	case 3:
		return right
	}
	return false
}

func areDosesOf(dose, organ []int64) bool {
	return len(dose) == len(organ) && len(dose) <= 1024 && allLieFrom(dose, 0, 1000000000)
}

// isGoalMet looks at each voxel by the words of the goal's kind.
func isGoalMet(g impl.Goal, dose, organ []int64) bool {
	each, more := true, int64(0)
	for i := range dose {
		if organ[i] != g.Organ {
			continue
		}
		switch g.Kind {
		case 1:
			each = each && dose[i] <= g.Level
		case 2:
			each = each && dose[i] >= g.Level
		case 3:
			more += oneIf(dose[i] > g.Level)
		}
	}
	return each && more <= g.Count
}

func plainMissed(dose, organ []int64, goals []impl.Goal) []int64 {
	if !areDosesOf(dose, organ) || len(goals) > 64 {
		return nil
	}
	var missed []int64
	for i, g := range goals {
		if !isGoal(g) {
			return nil
		}
		if !isGoalMet(g, dose, organ) {
			missed = append(missed, int64(i))
		}
	}
	return missed
}

// plainAbove counts all voxels anew for each dose that the organ has.
func plainAbove(dose, organ []int64, which int64) []int64 {
	if !areDosesOf(dose, organ) {
		return nil
	}
	levels := map[int64]int64{}
	for i := range dose {
		if organ[i] == which {
			levels[dose[i]] = 0
		}
	}
	var counts []int64
	for level := range levels {
		count := int64(0)
		for i := range dose {
			count += oneIf(organ[i] == which && dose[i] >= level)
		}
		counts = append(counts, count)
	}
	// A greater dose has fewer voxels at or above it.
	slices.Sort(counts)
	slices.Reverse(counts)
	return counts
}

func areBoundsOf(bounds []impl.Bound) bool {
	for _, b := range bounds {
		if len(b.A) != len(bounds[0].A) || len(b.A) < 1 || len(b.A) > 64 || !allLieFrom(b.A, -1000, 1000) || !liesFrom(b.B, -1000, 1000) {
			return false
		}
	}
	return len(bounds) >= 1 && len(bounds) <= 64
}

func plainRefutes(bounds []impl.Bound, weights []int64) bool {
	if !areBoundsOf(bounds) || len(weights) != len(bounds) || !allLieFrom(weights, 0, 1000) {
		return false
	}
	for at := range bounds[0].A {
		sum := int64(0)
		for i, w := range weights {
			sum += w * bounds[i].A[at]
		}
		if sum < 0 {
			return false
		}
	}
	sum := int64(0)
	for i, w := range weights {
		sum += w * bounds[i].B
	}
	return sum < 0
}

func plainKeeps(bounds []impl.Bound, x []int64) bool {
	if !areBoundsOf(bounds) || len(x) != len(bounds[0].A) || !allLieFrom(x, 0, 1000000000) {
		return false
	}
	for _, b := range bounds {
		sum := int64(0)
		for at, a := range b.A {
			sum += a * x[at]
		}
		if sum > b.B {
			return false
		}
	}
	return true
}

// listsOf are all lists of n numbers from least to most.
func listsOf(n int, least, most int64) [][]int64 {
	lists := [][]int64{{}}
	for range n {
		var longer [][]int64
		for _, list := range lists {
			for number := least; number <= most; number++ {
				longer = append(longer, append(slices.Clone(list), number))
			}
		}
		lists = longer
	}
	return lists
}

func (m *mixer) list(n int, least, most int64) []int64 {
	list := make([]int64, n)
	for i := range list {
		list[i] = m.pick(least, most)
	}
	return list
}

func (m *mixer) leaves(count int, n, units int64) []impl.Leaf {
	list := make([]impl.Leaf, count)
	for i := range list {
		left := m.pick(0, n-1)
		list[i] = leafOf(left, m.pick(left+1, n), m.pick(1, units))
	}
	return list
}

func (m *mixer) bounds(count, n int, most int64) []impl.Bound {
	list := make([]impl.Bound, count)
	for i := range list {
		list[i] = boundOf(m.pick(-most, most), m.list(n, -most, most)...)
	}
	return list
}

func wantLeaves(t *testing.T, what any, got, want []impl.Leaf) {
	t.Helper()
	if !slices.Equal(got, want) {
		t.Errorf("%v: %v, want %v", what, got, want)
	}
}

func wantNumber(t *testing.T, what any, got, want int64) {
	t.Helper()
	if got != want {
		t.Errorf("%v: %d, want %d", what, got, want)
	}
}

func wantAnswer(t *testing.T, what any, got, want bool) {
	t.Helper()
	if got != want {
		t.Errorf("%v: %v, want %v", what, got, want)
	}
}
