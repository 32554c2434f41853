package tests

import (
	"slices"
	"testing"

	"loop.example/g00050/impl"
)

func TestGoalLimits(t *testing.T) {
	for _, kind := range edges(1, 3) {
		for _, level := range edges(0, 1000000000) {
			for _, count := range append(edges(0, 1024), 1) {
				for _, organ := range []int64{0, 1, -1, leastInt, mostInt} {
					g := goalOf(kind, organ, level, count)
					wantAnswer(t, g, impl.GoalOk(g), isGoal(g))
				}
			}
		}
	}
	for _, g := range []impl.Goal{goalOf(1, 0, 0, 0), goalOf(2, 0, 0, 0), goalOf(3, 0, 0, 0), goalOf(1, leastInt, 1000000000, 0), goalOf(2, mostInt, 1000000000, 0), goalOf(3, 5, 1000000000, 1024)} {
		wantAnswer(t, g, impl.GoalOk(g), true)
	}
	for _, g := range []impl.Goal{{}, goalOf(0, 1, 1, 0), goalOf(4, 1, 1, 0), goalOf(-1, 1, 1, 0), goalOf(1, 1, -1, 0), goalOf(1, 1, 1000000001, 0), goalOf(1, 1, 1, 1), goalOf(2, 1, 1, 1), goalOf(1, 1, 1, -1), goalOf(2, 1, 1, 1024), goalOf(3, 1, 1, -1), goalOf(3, 1, 1, 1025), goalOf(3, 1, -1, 1), goalOf(3, 1, 1000000001, 1), goalOf(1+1<<32, 1, 1, 0), goalOf(leastInt, 1, 1, 0), goalOf(mostInt, 1, 1, 0)} {
		wantAnswer(t, g, impl.GoalOk(g), false)
	}
	if impl.GoalMost != 1 || impl.GoalLeast != 2 || impl.GoalPart != 3 {
		t.Error("kinds of goals")
	}
}

func TestMissedByHand(t *testing.T) {
	dose := []int64{5, 9, 2, 9, 0}
	organ := []int64{1, 1, 2, 1, 3}
	for _, row := range []struct {
		goal impl.Goal
		met  bool
	}{
		{goalOf(1, 1, 9, 0), true}, {goalOf(1, 1, 8, 0), false}, {goalOf(1, 1, 10, 0), true}, {goalOf(1, 1, 0, 0), false}, {goalOf(1, 2, 2, 0), true}, {goalOf(1, 2, 1, 0), false}, {goalOf(1, 3, 0, 0), true},
		{goalOf(2, 1, 5, 0), true}, {goalOf(2, 1, 6, 0), false}, {goalOf(2, 1, 4, 0), true}, {goalOf(2, 1, 0, 0), true}, {goalOf(2, 2, 2, 0), true}, {goalOf(2, 2, 3, 0), false}, {goalOf(2, 3, 1, 0), false}, {goalOf(2, 3, 0, 0), true},
		{goalOf(3, 1, 9, 0), true}, {goalOf(3, 1, 8, 2), true}, {goalOf(3, 1, 8, 1), false}, {goalOf(3, 1, 5, 2), true}, {goalOf(3, 1, 4, 2), false}, {goalOf(3, 1, 4, 3), true}, {goalOf(3, 2, 1, 0), false}, {goalOf(3, 2, 1, 1), true}, {goalOf(3, 1, 0, 1024), true},
		// Of an organ that no voxel is of each voxel has what is asked.
		{goalOf(1, 4, 0, 0), true}, {goalOf(2, 4, 1000000000, 0), true}, {goalOf(3, 4, 0, 0), true}, {goalOf(1, leastInt, 0, 0), true}, {goalOf(2, mostInt, 9, 0), true},
	} {
		want := []int64{0}
		if row.met {
			want = nil
		}
		wantLists(t, row, impl.Missed(dose, organ, []impl.Goal{row.goal}), want)
	}
	all := []impl.Goal{goalOf(1, 1, 8, 0), goalOf(2, 2, 2, 0), goalOf(3, 1, 8, 2), goalOf(3, 1, 4, 2), goalOf(1, 1, 8, 0)}
	wantLists(t, "rising", impl.Missed(dose, organ, all), []int64{0, 3, 4})
	wantLists(t, "no goal", impl.Missed(dose, organ, nil), nil)
	wantLists(t, "no voxel", impl.Missed(nil, nil, all), nil)
	wantLists(t, "organs at both ends", impl.Missed([]int64{1, 2}, []int64{leastInt, mostInt}, []impl.Goal{goalOf(1, leastInt, 0, 0), goalOf(1, mostInt, 2, 0), goalOf(2, mostInt, 3, 0)}), []int64{0, 2})
}

func TestMissedOfSmallDoses(t *testing.T) {
	var goals []impl.Goal
	for kind := int64(1); kind <= 3; kind++ {
		for organ := range int64(2) {
			for level := range int64(4) {
				for count := range int64(4) {
					if g := goalOf(kind, organ, level, count); isGoal(g) {
						goals = append(goals, g)
					}
				}
			}
		}
	}
	if len(goals) > 64 {
		t.Fatal(len(goals))
	}
	for n := range 5 {
		for _, dose := range listsOf(n, 0, 3) {
			for _, organ := range listsOf(n, 0, 1) {
				wantLists(t, []any{dose, organ}, impl.Missed(dose, organ, goals), plainMissed(dose, organ, goals))
				for which := int64(-1); which <= 2; which++ {
					wantLists(t, []any{dose, organ, which}, impl.Above(dose, organ, which), plainAbove(dose, organ, which))
				}
			}
		}
	}
}

func TestMissedPlainly(t *testing.T) {
	m := mixer(204)
	for range 500 {
		n := int(m.pick(0, 40))
		dose, organ := m.list(n, 0, 20), m.list(n, 0, 3)
		goals := make([]impl.Goal, m.pick(0, 64))
		for i := range goals {
			goals[i] = goalOf(m.pick(1, 3), m.pick(-1, 4), m.pick(0, 20), 0)
			if goals[i].Kind == impl.GoalPart {
				goals[i].Count = m.pick(0, 9)
			}
		}
		wantLists(t, []any{dose, organ, goals}, impl.Missed(dose, organ, goals), plainMissed(dose, organ, goals))
		for which := int64(-1); which <= 4; which++ {
			wantLists(t, []any{dose, organ, which}, impl.Above(dose, organ, which), plainAbove(dose, organ, which))
		}
	}
}

// hardGoal is missed by every voxel of organ 1 that has something.
func hardGoal() impl.Goal { return goalOf(impl.GoalMost, 1, 0, 0) }

func TestMissedLimitsOfGoals(t *testing.T) {
	dose, organ := []int64{7}, []int64{1}
	var rising []int64
	for i := range int64(64) {
		rising = append(rising, i)
	}
	wantLists(t, "64 goals", impl.Missed(dose, organ, slices.Repeat([]impl.Goal{hardGoal()}, 64)), rising)
	wantLists(t, "65 goals", impl.Missed(dose, organ, slices.Repeat([]impl.Goal{hardGoal()}, 65)), nil)
	wantLists(t, "65 goals that are met", impl.Missed(dose, organ, slices.Repeat([]impl.Goal{goalOf(1, 1, 7, 0)}, 65)), nil)
	for _, wrong := range []impl.Goal{{}, goalOf(4, 1, 1, 0), goalOf(1, 1, 1, 1), goalOf(3, 1, 1, 1025), goalOf(2, 1, -1, 0), goalOf(2, 1, 1000000001, 0), goalOf(leastInt, leastInt, leastInt, leastInt)} {
		for at := range 4 {
			goals := slices.Repeat([]impl.Goal{hardGoal()}, 4)
			goals[at] = wrong
			wantLists(t, goals, impl.Missed(dose, organ, goals), nil)
		}
	}
}

func TestDoseLimits(t *testing.T) {
	goals := []impl.Goal{goalOf(impl.GoalLeast, 1, 1000000000, 0), hardGoal(), goalOf(impl.GoalPart, 1, 0, 1023), goalOf(impl.GoalPart, 1, 0, 1024)}
	ask := func(what any, dose, organ []int64) {
		t.Helper()
		wantLists(t, what, impl.Missed(dose, organ, goals), plainMissed(dose, organ, goals))
		wantLists(t, what, impl.Above(dose, organ, 1), plainAbove(dose, organ, 1))
	}
	ones := slices.Repeat([]int64{1}, 1025)
	ask("1024 voxels", ones[:1024], ones[:1024])
	wantLists(t, "1024 voxels", impl.Missed(ones[:1024], ones[:1024], goals), []int64{0, 1, 2})
	wantLists(t, "1024 voxels", impl.Above(ones[:1024], ones[:1024], 1), []int64{1024})
	for _, lengths := range [][2]int{{1025, 1025}, {1024, 1025}, {1025, 1024}, {3, 2}, {2, 3}, {0, 1}, {1, 0}} {
		wantLists(t, lengths, impl.Missed(ones[:lengths[0]], ones[:lengths[1]], goals), nil)
		wantLists(t, lengths, impl.Above(ones[:lengths[0]], ones[:lengths[1]], 1), nil)
		ask(lengths, ones[:lengths[0]], ones[:lengths[1]])
	}
	for _, number := range edges(0, 1000000000) {
		for at := range 3 {
			// A voxel counts whether its organ is asked for or not.
			for _, organ := range [][]int64{{1, 1, 1}, {1, 2, 1}, {2, 2, 2}, {2, 1, 2}} {
				dose := []int64{4, 4, 6}
				dose[at] = number
				ask([]any{dose, organ}, dose, organ)
			}
		}
	}
	for _, number := range []int64{-1, 1000000001, leastInt, mostInt} {
		wantLists(t, number, impl.Missed([]int64{5, number}, []int64{1, 2}, goals), nil)
		wantLists(t, number, impl.Above([]int64{5, number}, []int64{1, 2}, 1), nil)
	}
	wantLists(t, "the greatest dose", impl.Missed([]int64{1000000000}, []int64{1}, goals), []int64{1})
	wantLists(t, "the greatest dose", impl.Above([]int64{1000000000, 0}, []int64{1, 1}, 1), []int64{2, 1})
}

func TestAboveByHand(t *testing.T) {
	for _, row := range []struct {
		dose, organ []int64
		which       int64
		want        []int64
	}{
		{[]int64{5, 9, 2, 9}, []int64{1, 1, 2, 1}, 1, []int64{3, 2}},
		{[]int64{5, 9, 2, 9}, []int64{1, 1, 2, 1}, 2, []int64{1}},
		{[]int64{5, 9, 2, 9}, []int64{1, 1, 2, 1}, 3, nil},
		{[]int64{4, 4, 4}, []int64{7, 7, 7}, 7, []int64{3}},
		{[]int64{3, 1, 2}, []int64{0, 0, 0}, 0, []int64{3, 2, 1}},
		{[]int64{1, 2, 2, 3, 3, 3}, []int64{0, 0, 0, 0, 0, 0}, 0, []int64{6, 5, 3}},
		{[]int64{3, 3, 3, 2, 2, 1}, []int64{0, 0, 0, 0, 0, 0}, 0, []int64{6, 5, 3}},
		{[]int64{0}, []int64{leastInt}, leastInt, []int64{1}},
		{[]int64{0, 1000000000}, []int64{mostInt, mostInt}, mostInt, []int64{2, 1}},
		{nil, nil, 0, nil},
	} {
		wantLists(t, row, impl.Above(row.dose, row.organ, row.which), row.want)
	}
	var dose, organ, want []int64
	for i := range int64(1024) {
		dose, organ, want = append(dose, i*7919%1024), append(organ, 3), append(want, 1024-i)
	}
	wantLists(t, "1024 unlike doses", impl.Above(dose, organ, 3), want)
}
