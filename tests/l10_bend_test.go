package tests

import (
	"slices"
	"testing"

	"loop.example/g00050/impl"
)

func TestBendByHand(t *testing.T) {
	for _, row := range []struct {
		bend  []int64
		x, at int64
	}{
		{[]int64{0, 3, 4}, 0, 0}, {[]int64{0, 3, 4}, 1, 3}, {[]int64{0, 3, 4}, 15, 45}, {[]int64{0, 3, 4}, 16, 48}, {[]int64{0, 3, 4}, 17, 49}, {[]int64{0, 3, 4}, 31, 63}, {[]int64{0, 3, 4}, 32, 64},
		{[]int64{-5, -4}, 0, -80}, {[]int64{-5, -4}, 1, -79}, {[]int64{-5, -4}, 15, -65}, {[]int64{-5, -4}, 16, -64},
		{[]int64{-2, 5}, 3, -11}, {[]int64{-2, 5}, 4, -4}, {[]int64{-2, 5}, 5, 3},
		{[]int64{-1000, 1000}, 0, -16000}, {[]int64{-1000, 1000}, 8, 0}, {[]int64{-1000, 1000}, 15, 14000}, {[]int64{-1000, 1000}, 16, 16000},
	} {
		at, ok := impl.BendAt(row.bend, row.x)
		wantBent(t, row, at, ok, row.at, true)
		back, ok := impl.BendBack(row.bend, row.at)
		wantBent(t, []any{"back", row}, back, ok, row.x, true)
	}
	for _, row := range []struct {
		bend []int64
		y, x int64
	}{
		{[]int64{0, 3, 4}, 1, 0}, {[]int64{0, 3, 4}, 2, 0}, {[]int64{0, 3, 4}, 3, 1}, {[]int64{0, 3, 4}, 47, 15}, {[]int64{0, 3, 4}, 48, 16}, {[]int64{0, 3, 4}, 49, 17},
		{[]int64{-2, 5}, -32, 0}, {[]int64{-2, 5}, -26, 0}, {[]int64{-2, 5}, -25, 1}, {[]int64{-2, 5}, -12, 2}, {[]int64{-2, 5}, -1, 4}, {[]int64{-2, 5}, 0, 4}, {[]int64{-2, 5}, 79, 15},
		{[]int64{-1000, 1000}, 15999, 15}, {[]int64{-1000, 1000}, -1, 7},
	} {
		back, ok := impl.BendBack(row.bend, row.y)
		wantBent(t, row, back, ok, row.x, true)
	}
}

// bendsOf are all lists of n numbers from -2 to 2.
func bendsOf(n int) [][]int64 {
	lists := [][]int64{{}}
	for range n {
		var longer [][]int64
		for _, list := range lists {
			for number := int64(-2); number <= 2; number++ {
				longer = append(longer, append(slices.Clone(list), number))
			}
		}
		lists = longer
	}
	return lists
}

func TestBendsOfSmallNumbers(t *testing.T) {
	for n := range 5 {
		for _, bend := range bendsOf(n) {
			if got := impl.BendOk(bend); got != isBend(bend) {
				t.Error(bend, got)
			}
			for x := int64(-20); x <= 16*int64(n)+20; x++ {
				got, ok := impl.BendAt(bend, x)
				want, wantOk := plainBendAt(bend, x)
				wantBent(t, []any{"at", bend, x}, got, ok, want, wantOk)
			}
			for y := int64(-40); y <= 40; y++ {
				got, ok := impl.BendBack(bend, y)
				want, wantOk := plainBendBack(bend, y)
				wantBent(t, []any{"back", bend, y}, got, ok, want, wantOk)
			}
		}
	}
}

// wantNoBend wants all three to refuse the list.
func wantNoBend(t *testing.T, bend []int64) {
	t.Helper()
	if impl.BendOk(bend) {
		t.Error("a bend", brief(bend))
	}
	for _, n := range []int64{0, 1, -1, 16, 17, 32, 1000, 16000, -16000, leastInt, mostInt} {
		at, ok := impl.BendAt(bend, n)
		wantBent(t, []any{"at", brief(bend), n}, at, ok, 0, false)
		back, ok := impl.BendBack(bend, n)
		wantBent(t, []any{"back", brief(bend), n}, back, ok, 0, false)
	}
	for _, n := range bend {
		back, ok := impl.BendBack(bend, 16*n)
		wantBent(t, []any{"back", brief(bend), n}, back, ok, 0, false)
	}
}

func TestBendLimits(t *testing.T) {
	m := mixer(188)
	for _, n := range []int{0, 1, 65, 66, 100, 1000} {
		wantNoBend(t, evenBend(n))
	}
	for _, n := range []int{2, 3, 63, 64} {
		if !impl.BendOk(m.bend(n, -1000, 31)) {
			t.Error("no bend of", n)
		}
	}
	for _, bend := range [][]int64{{-1000, 1000}, {-1000, -999}, {999, 1000}, {-1000, 0, 1000}} {
		if !impl.BendOk(bend) {
			t.Error("no bend", bend)
		}
	}
	for _, bend := range [][]int64{{-1001, 0}, {0, 1001}, {-1001, 1001}, {-1001, -1000, 0}, {0, 1000, 1001}, {-1000, 1001}, {leastInt, 0}, {0, mostInt}, {leastInt, mostInt}, {leastInt, 0, mostInt}, {mostInt, leastInt},
		{0, 1 << 32}, {-1 << 32, 0}, {1 << 32, 1<<32 + 1}, {1, 1}, {0, 1, 1}, {0, 0, 1}, {1, 0}, {0, 2, 1}, {2, 0, 1}, {0, 1, 2, 2}, {0, 1, 2, 3, 2}, {1000, -1000}, {5, 4, 3}} {
		wantNoBend(t, bend)
	}
	// Each neighbour of a long bend, made like the one ahead, or falling.
	for at := 1; at < 64; at++ {
		bend := evenBend(64)
		bend[at] = bend[at-1]
		wantNoBend(t, bend)
		bend = evenBend(64)
		bend[at-1], bend[at] = bend[at], bend[at-1]
		wantNoBend(t, bend)
		bend = evenBend(64)
		bend[at] = 1001
		wantNoBend(t, bend)
	}
}

func TestBendPlacesPastTheEnds(t *testing.T) {
	m := mixer(189)
	for _, n := range []int{2, 3, 17, 63, 64} {
		bend := m.bend(n, m.pick(-1000, -900), 29)
		last := 16 * int64(n-1)
		for _, x := range []int64{leastInt, leastInt + 1, -1 << 32, -17, -16, -1, last + 1, last + 15, last + 16, last + 17, 1 << 32, mostInt - 1, mostInt} {
			at, ok := impl.BendAt(bend, x)
			wantBent(t, []any{n, x}, at, ok, 0, false)
		}
		for x := range last + 1 {
			at, ok := impl.BendAt(bend, x)
			want, wantOk := plainBendAt(bend, x)
			wantBent(t, []any{n, x}, at, ok, want, wantOk)
		}
		low, high := 16*bend[0], 16*bend[n-1]
		for _, y := range []int64{leastInt, leastInt + 1, -1 << 32, low - 17, low - 16, low - 1, high + 1, high + 16, high + 17, 1 << 32, mostInt - 1, mostInt} {
			back, ok := impl.BendBack(bend, y)
			wantBent(t, []any{n, y}, back, ok, 0, false)
		}
		for _, row := range [][2]int64{{low, 0}, {high, last}} {
			back, ok := impl.BendBack(bend, row[0])
			wantBent(t, []any{n, row}, back, ok, row[1], true)
		}
	}
}

// Promise 13: a bend folds nowhere.
func TestBendFoldsNowhere(t *testing.T) {
	m := mixer(190)
	for _, n := range []int{2, 3, 4, 9, 33, 64} {
		for _, step := range []int64{1, 2, 7, 30} {
			bend := m.bend(n, m.pick(-1000, -930), step)
			before := int64(leastInt)
			for x := range 16*int64(n-1) + 1 {
				at, ok := impl.BendAt(bend, x)
				if !ok || at <= before {
					t.Fatal(bend, x, at, before)
				}
				before = at
				back, ok := impl.BendBack(bend, at)
				wantBent(t, []any{brief(bend), x, at}, back, ok, x, true)
			}
		}
	}
}

func TestBendBackOfEveryPlace(t *testing.T) {
	m := mixer(191)
	for range 60 {
		n := int(m.pick(2, 6))
		bend := m.bend(n, m.pick(-30, 30), 9)
		for y := 16*bend[0] - 40; y <= 16*bend[n-1]+40; y++ {
			got, ok := impl.BendBack(bend, y)
			want, wantOk := plainBendBack(bend, y)
			wantBent(t, []any{bend, y}, got, ok, want, wantOk)
		}
	}
	wide := []int64{-1000, -999, 0, 1000}
	for y := int64(-16020); y <= 16020; y++ {
		got, ok := impl.BendBack(wide, y)
		want, wantOk := plainBendBack(wide, y)
		wantBent(t, []any{wide, y}, got, ok, want, wantOk)
	}
}
