package tests

import (
	"slices"
	"testing"

	"loop.example/g00050/impl"
)

func TestLeavesAreNewMemory(t *testing.T) {
	m := mixer(206)
	mark := leafOf(99, 99, 99)
	for _, n := range []int{1, 2, 5, 64} {
		was := m.list(n, 1, 1000)
		row := roomy(was, 7)
		first, second := impl.Leaves(row), impl.Leaves(row)
		if !stays(row, was, 7) {
			t.Error("a row changes")
		}
		fillWith(first, mark)
		spoil(row)
		wantLeaves(t, "shared memory", second, plainLeaves(was))
		leaves := roomy(second, mark)
		answers, again := [][]int64{impl.Given(leaves, int64(n)), impl.Given(leaves, 64)}, [][]int64{impl.Given(leaves, int64(n)), impl.Given(leaves, 64)}
		wantNumber(t, "units", impl.LeafUnits(leaves), allSteps(was, 1))
		if !stays(leaves, second, mark) {
			t.Error("leaves change")
		}
		wantUnshared(t, n, answers, again)
	}
	// Rows of noughts are told anew too.
	first, second := impl.Given(nil, 5), impl.Given(nil, 5)
	spoil(first)
	wantLists(t, "noughts", second, make([]int64, 5))
}

func TestDeliveredDosesAreNewMemory(t *testing.T) {
	m := mixer(207)
	for _, n := range []int{1, 3, 64} {
		for _, voxels := range []int{1, 2, 40} {
			wasKernel, wasRow := m.list(n*voxels, 0, 1000), m.list(n, 0, 1000)
			kernel, row := roomy(wasKernel, 7), roomy(wasRow, 8)
			answers, again := [][]int64{impl.Deliver(kernel, row)}, [][]int64{impl.Deliver(kernel, row)}
			if !stays(kernel, wasKernel, 7) || !stays(row, wasRow, 8) {
				t.Error("an argument changes")
			}
			wantUnshared(t, n, answers, again, kernel, row)
		}
	}
	both := []int64{3, 4}
	wantLists(t, "one list twice", impl.Deliver(both, both), []int64{25})
	wantLists(t, "one list twice", both, []int64{3, 4})
}

func TestGoalListsAreNewMemory(t *testing.T) {
	m := mixer(208)
	mark := goalOf(9, 9, 9, 9)
	for range 30 {
		n := int(m.pick(1, 40))
		wasDose, wasOrgan := m.list(n, 1, 9), m.list(n, 0, 1)
		wasDose[0], wasOrgan[0] = 9, 1
		wasGoals := []impl.Goal{hardGoal(), goalOf(2, 1, 10, 0), goalOf(3, 1, 9, 0), goalOf(3, 1, 0, 0)}
		dose, organ, goals := roomy(wasDose, 17), roomy(wasOrgan, 18), roomy(wasGoals, mark)
		ask := func() [][]int64 {
			return [][]int64{impl.Missed(dose, organ, goals), impl.Above(dose, organ, 1), impl.Above(dose, organ, 1)}
		}
		answers, again := ask(), ask()
		if !stays(dose, wasDose, 17) || !stays(organ, wasOrgan, 18) || !stays(goals, wasGoals, mark) {
			t.Error("an argument changes")
		}
		wantUnshared(t, n, answers, again, dose, organ)
	}
	both := []int64{3, 1, 3}
	wantLists(t, "one list twice", impl.Above(both, both, 3), []int64{2})
	wantLists(t, "one list twice", impl.Missed(both, both, []impl.Goal{goalOf(1, 3, 2, 0), goalOf(1, 1, 1, 0)}), []int64{0})
	wantLists(t, "one list twice", both, []int64{3, 1, 3})
}

func TestBoundsStay(t *testing.T) {
	m := mixer(209)
	for range 50 {
		n, count := int(m.pick(1, 8)), int(m.pick(1, 8))
		was := m.bounds(count, n, 9)
		bounds := make([]impl.Bound, count, count+2)
		for i := range bounds {
			bounds[i] = boundOf(was[i].B, roomy(was[i].A, 77)...)
		}
		room := boundOf(5, 1, 2, 3)
		bounds[:count+1][count] = room
		wasWeights, wasX := m.list(count, 0, 9), m.list(n, 0, 9)
		weights, x := roomy(wasWeights, 7), roomy(wasX, 8)
		impl.Refutes(bounds, weights)
		impl.Keeps(bounds, x)
		impl.Refutes(bounds, x)
		impl.Keeps(bounds, weights)
		if !stays(weights, wasWeights, 7) || !stays(x, wasX, 8) {
			t.Error("weights or numbers change")
		}
		for i := range bounds {
			if !stays(bounds[i].A, was[i].A, 77) || bounds[i].B != was[i].B {
				t.Error("a bound changes", bounds[i], was[i])
			}
		}
		if behind := bounds[:count+1][count]; behind.B != 5 || !slices.Equal(behind.A, []int64{1, 2, 3}) {
			t.Error("what lies behind the bounds changes", behind)
		}
	}
	// All bounds may have their numbers from one list.
	one := []int64{0, 0}
	shared := []impl.Bound{{A: one, B: -1}, {A: one, B: -1}}
	wantAnswer(t, "one list twice", impl.Refutes(shared, []int64{1, 1}), true)
	wantLists(t, "one list twice", one, []int64{0, 0})
}

// A refused argument is as it was, and what lies behind a list's length is not read.
func TestDosesLeaveArguments(t *testing.T) {
	store := []int64{1, 2, 2000, -1}
	wantLeaves(t, "behind a row", impl.Leaves(store[:2]), []impl.Leaf{leafOf(0, 2, 1), leafOf(1, 2, 1)})
	wantLeaves(t, "all of it", impl.Leaves(store), nil)
	wantLists(t, "behind a kernel", impl.Deliver(store[:2], store[:1]), []int64{1, 2})
	wantLists(t, "all of it", impl.Deliver(store, store[:2]), nil)
	wantLists(t, "behind doses", impl.Above(store[:2], []int64{1, 1, 1}[:2], 1), []int64{2, 1})
	wantLists(t, "all of it", impl.Missed(store, make([]int64, 4), []impl.Goal{goalOf(1, 0, 0, 0)}), nil)
	wantLists(t, "all of it", store, []int64{1, 2, 2000, -1})
	leaves := []impl.Leaf{leafOf(0, 1, 2), leafOf(1, 1, 1)}
	wantLists(t, "behind leaves", impl.Given(leaves[:1], 1), []int64{2})
	wantLists(t, "all of them", impl.Given(leaves, 1), nil)
	wantNumber(t, "behind leaves", impl.LeafUnits(leaves[:1]), 2)
	wantNumber(t, "all of them", impl.LeafUnits(leaves), 0)
	wantLeaves(t, "all of them", leaves, []impl.Leaf{leafOf(0, 1, 2), leafOf(1, 1, 1)})
	goals := []impl.Goal{hardGoal(), {}}
	wantLists(t, "behind goals", impl.Missed([]int64{1}, []int64{1}, goals[:1]), []int64{0})
	wantLists(t, "all of them", impl.Missed([]int64{1}, []int64{1}, goals), nil)
	numbers := []int64{-1, 2000}
	bounds := []impl.Bound{{A: numbers[:1], B: -1}, {A: numbers, B: 3}}
	wantAnswer(t, "behind bounds", impl.Keeps(bounds[:1], []int64{1, 2000000000}[:1]), true)
	wantAnswer(t, "all of them", impl.Keeps(bounds, []int64{1}), false)
	wantAnswer(t, "behind weights", impl.Refutes([]impl.Bound{boundOf(-1, 1)}, []int64{1, -1}[:1]), true)
	wantLists(t, "all of them", numbers, []int64{-1, 2000})
}

func TestDosesNeverPanic(t *testing.T) {
	m := mixer(210)
	wild := []int64{leastInt, leastInt + 1, -1 << 32, -1001, -1000, -1, 0, 0, 0, 1, 1, 1, 2, 2, 3, 3, 4, 5, 63, 64, 65, 999, 1000, 1001, 1024, 1025, 1000000000, 1000000001, 1 << 32, 1<<32 + 1, 1 << 62, mostInt - 1, mostInt}
	pick := func() int64 {
		if m.pick(0, 3) > 0 {
			return m.pick(0, 3)
		}
		return wild[m.pick(0, int64(len(wild)-1))]
	}
	list := func(n int64) []int64 {
		var out []int64
		for range n {
			out = append(out, pick())
		}
		return out
	}
	for range 30000 {
		var leaves []impl.Leaf
		var goals []impl.Goal
		var bounds []impl.Bound
		n := m.pick(0, 3)
		for range m.pick(0, 3) {
			leaves = append(leaves, leafOf(pick(), pick(), pick()))
			goals = append(goals, goalOf(pick(), pick(), pick(), pick()*m.pick(0, 1)))
			bounds = append(bounds, boundOf(pick()-2, list(max(0, n-oneIf(m.pick(0, 9) == 0)))...))
		}
		askLeaves(t, leaves, list(m.pick(0, 4)), list(m.pick(0, 4)), pick())
		askGoals(t, list(n), list(n+oneIf(m.pick(0, 9) == 0)), goals, pick())
		askBounds(t, bounds, list(int64(len(bounds))), list(n))
	}
	askLeaves(t, nil, nil, nil, 0)
	askGoals(t, nil, nil, nil, 0)
	askBounds(t, nil, nil, nil)
	for _, long := range []int{1 << 16, 1 << 20} {
		numbers := make([]int64, long)
		askLeaves(t, make([]impl.Leaf, long), numbers, numbers, 64)
		askGoals(t, numbers, numbers, make([]impl.Goal, long), 0)
		askBounds(t, make([]impl.Bound, long), numbers, numbers)
		askBounds(t, []impl.Bound{{A: numbers}}, []int64{1}, numbers)
	}
}

func askLeaves(t *testing.T, leaves []impl.Leaf, row, kernel []int64, n int64) {
	defer wantNoPanic(t, []any{len(leaves), brief(row), brief(kernel), n})
	wantLeaves(t, brief(row), impl.Leaves(row), plainLeaves(row))
	wantLists(t, n, impl.Given(leaves, n), plainGiven(leaves, n))
	wantNumber(t, n, impl.LeafUnits(leaves), plainUnits(leaves))
	wantLists(t, brief(row), impl.Deliver(kernel, row), plainDeliver(kernel, row))
}

func askGoals(t *testing.T, dose, organ []int64, goals []impl.Goal, which int64) {
	defer wantNoPanic(t, []any{brief(dose), brief(organ), len(goals), which})
	wantLists(t, brief(dose), impl.Missed(dose, organ, goals), plainMissed(dose, organ, goals))
	wantLists(t, brief(dose), impl.Above(dose, organ, which), plainAbove(dose, organ, which))
	for _, g := range goals {
		if impl.GoalOk(g) != isGoal(g) {
			t.Error(g)
		}
	}
}

func askBounds(t *testing.T, bounds []impl.Bound, weights, x []int64) {
	defer wantNoPanic(t, []any{len(bounds), brief(weights), brief(x)})
	wantAnswer(t, brief(weights), impl.Refutes(bounds, weights), plainRefutes(bounds, weights))
	wantAnswer(t, brief(x), impl.Keeps(bounds, x), plainKeeps(bounds, x))
}
