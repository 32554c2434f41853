package tests

import (
	"testing"

	"loop.example/g00050/impl"
)

func TestFitCostByHand(t *testing.T) {
	a, b := impl.Volume{NX: 1, NY: 1, NZ: 1, Vox: []int64{7}}, impl.Volume{NX: 1, NY: 1, NZ: 1, Vox: []int64{-3}}
	for turn := range int64(12) {
		for _, row := range [][4]int64{{0, 0, 0, 100}, {1, 0, 0, 49}, {0, -1, 0, 49}, {0, 0, 2, 49}, {-2, 2, 1, 49}} {
			if got := impl.FitCost(a, b, turn, row[0], row[1], row[2]); got != row[3] {
				t.Error(turn, row, got)
			}
		}
	}
	// One voxel goes one place on along x, y and z.
	lone := cubeOf(2, func(x, y, z int64) int64 { return oneIf(x+y+z == 0) * 5 })
	for _, row := range [][4]int64{{1, 0, 0, 1}, {0, 1, 0, 2}, {0, 0, 1, 4}, {1, 1, 0, 3}, {1, 1, 1, 7}} {
		to := evenCube(2, 0)
		to.Vox[row[3]] = 5
		if got := impl.FitCost(to, lone, 0, row[0], row[1], row[2]); got != 0 {
			t.Error(row, got)
		}
		if got := impl.FitCost(to, lone, 0, -row[0], -row[1], -row[2]); got != 25 {
			t.Error(row, got)
		}
		if got := impl.FitCost(to, lone, 0, 0, 0, 0); got != 50 {
			t.Error(row, got)
		}
	}
}

func TestFitCostOfEveryFit(t *testing.T) {
	m := mixer(183)
	for n := int64(1); n <= impl.MaxCube; n++ {
		a, b := m.volume(n, n, n, 9), m.volume(n, n, n, 9)
		if n%2 == 0 {
			a, b = m.volume(n, n, n, impl.MaxTone), m.volume(n, n, n, impl.MaxTone)
		}
		for turn := range int64(12) {
			for number := range int64(125) {
				x, y, z := number/25-2, number/5%5-2, number%5-2
				if got, want := impl.FitCost(a, b, turn, x, y, z), plainFitCost(a, b, turn, x, y, z); got != want {
					t.Fatal(n, turn, x, y, z, got, want)
				}
			}
		}
	}
}

func TestFitCostAtLimitsOfVoxels(t *testing.T) {
	low, high := evenCube(6, -impl.MaxTone), evenCube(6, impl.MaxTone)
	for turn := range int64(12) {
		for _, row := range []struct {
			a, b impl.Volume
			want int64
		}{{low, high, 216 * 8190 * 8190}, {high, low, 216 * 8190 * 8190}, {low, low, 0}, {high, high, 0}} {
			if got := impl.FitCost(row.a, row.b, turn, 0, 0, 0); got != row.want {
				t.Error(turn, got, row.want)
			}
		}
		// Of the voxels 4 x 5 x 6 lie upon one another, and the rest upon nothing.
		if got := impl.FitCost(low, high, turn, 2, -1, 0); got != 120*8190*8190+96*4095*4095 {
			t.Error(turn, got)
		}
	}
	high.Vox[100]++
	if impl.FitCost(low, high, 0, 0, 0, 0) != -1 || impl.FitCost(high, low, 0, 0, 0, 0) != -1 {
		t.Error("a voxel past its limit")
	}
	low.Vox[0]--
	high.Vox[100]--
	if impl.FitCost(low, high, 0, 0, 0, 0) != -1 || impl.FitCost(high, low, 0, 0, 0, 0) != -1 {
		t.Error("a voxel past its limit")
	}
}

func TestFitCostLimits(t *testing.T) {
	a, b := numbered(3, 3, 3), evenCube(3, 2)
	for _, n := range []int64{leastInt, leastInt + 1, -1 << 32, -3, -2, -1, 0, 1, 2, 3, 1 << 32, mostInt - 1, mostInt, 2 + 1<<32, 1 << 8} {
		right := n >= -2 && n <= 2
		for _, other := range []int64{0, -2, 2} {
			for _, got := range []int64{impl.FitCost(a, b, 0, n, other, other), impl.FitCost(a, b, 0, other, n, other), impl.FitCost(a, b, 0, other, other, n)} {
				if (got >= 0) != right || got < -1 {
					t.Error(n, other, got)
				}
			}
		}
	}
	for _, turn := range []int64{leastInt, -1 << 32, -2, -1, 0, 1, 10, 11, 12, 13, 23, 24, 1 << 32, mostInt} {
		got := impl.FitCost(a, b, turn, 1, 0, -1)
		if right := turn >= 0 && turn <= 11; (got >= 0) != right || got < -1 {
			t.Error(turn, got)
		}
	}
}

// wantNoFitOf wants both to be refused, whatever the turn and the reach.
func wantNoFitOf(t *testing.T, what any, a, b impl.Volume) {
	t.Helper()
	for _, turn := range []int64{0, 5, 11} {
		if got := impl.FitCost(a, b, turn, 0, 1, -2); got != -1 {
			t.Error(what, "cost", got)
		}
	}
	for reach := range int64(3) {
		wantFit(t, what, impl.Match(a, b, reach), impl.Fit{Turn: -1, Cost: -1})
	}
}

func TestFitsOfWrongVolumes(t *testing.T) {
	for n := int64(1); n <= 8; n++ {
		a, b := numbered(n, n, n), evenCube(n, 1)
		if n > impl.MaxCube {
			wantNoFitOf(t, n, a, b)
		} else if impl.FitCost(a, b, 11, 2, 2, 2) < 0 || impl.Match(a, b, 0).Cost < 0 {
			t.Error(n, "is refused")
		}
		for other := int64(1); other <= 8; other++ {
			if other != n {
				wantNoFitOf(t, []any{n, other}, a, numbered(other, other, other))
			}
		}
		for _, wrong := range append(wrongVolumes(), noCubes()...) {
			wantNoFitOf(t, []any{n, wrong.NX}, a, wrong)
			wantNoFitOf(t, []any{wrong.NX, n}, wrong, a)
			wantNoFitOf(t, wrong.NX, wrong, wrong)
		}
	}
}

func TestMatchReach(t *testing.T) {
	a, b := numbered(3, 3, 3), evenCube(3, 2)
	for _, reach := range []int64{leastInt, leastInt + 1, -1 << 32, -2, -1, 3, 4, 5, 1 << 32, 1<<32 + 1, mostInt - 1, mostInt} {
		wantFit(t, reach, impl.Match(a, b, reach), impl.Fit{Turn: -1, Cost: -1})
	}
	for reach := range int64(3) {
		wantFit(t, reach, impl.Match(a, b, reach), plainMatch(a, b, reach))
	}
}

// Promise 13: Match's cost is FitCost's, and no Fit costs less.
func TestNoFitCostsLess(t *testing.T) {
	m := mixer(184)
	for n := int64(1); n <= impl.MaxCube; n++ {
		for reach := range int64(3) {
			for _, most := range []int64{1, 9, impl.MaxTone} {
				a, b := m.volume(n, n, n, most), m.volume(n, n, n, most)
				got := impl.Match(a, b, reach)
				wantFit(t, []any{n, reach, most}, got, plainMatch(a, b, reach))
				if cost := impl.FitCost(a, b, got.Turn, got.X, got.Y, got.Z); cost != got.Cost {
					t.Error(n, reach, most, got, cost)
				}
			}
		}
	}
}

// Where few voxels are not 0, many fits cost the same.
func TestLikeFits(t *testing.T) {
	m := mixer(185)
	for reach := range int64(3) {
		for n := int64(1); n <= impl.MaxCube; n++ {
			wantFit(t, []any{"empty", n, reach}, impl.Match(evenCube(n, 0), evenCube(n, 0), reach), impl.Fit{X: -reach, Y: -reach, Z: -reach})
			wantFit(t, []any{"full", n, reach}, impl.Match(evenCube(n, 4), evenCube(n, 4), reach), impl.Fit{})
		}
		for range 40 {
			n := m.pick(1, 3)
			a, b := evenCube(n, 0), evenCube(n, 0)
			for range m.pick(0, 3) {
				a.Vox[m.pick(0, n*n*n-1)] = m.pick(0, 1)
				b.Vox[m.pick(0, n*n*n-1)] = m.pick(0, 1)
			}
			wantFit(t, []any{a.Vox, b.Vox, reach}, impl.Match(a, b, reach), plainMatch(a, b, reach))
		}
	}
	// A line along x in the middle: each of four turns leaves it, and of the shifts across it none is needed.
	line := cubeOf(3, func(x, y, z int64) int64 { return oneIf(y == 1 && z == 1) })
	wantFit(t, "line", impl.Match(line, line, 2), impl.Fit{})
	// One voxel in the middle stays there by every turn.
	dot := cubeOf(3, func(x, y, z int64) int64 { return oneIf(x == 1 && y == 1 && z == 1) })
	wantFit(t, "dot", impl.Match(dot, dot, 2), impl.Fit{})
	// No turn takes the dot to the corner, but one shift does.
	off := cubeOf(3, func(x, y, z int64) int64 { return oneIf(x == 0 && y == 0 && z == 0) })
	wantFit(t, "turns alone", impl.Match(off, dot, 0), impl.Fit{Cost: 2})
	wantFit(t, "shift", impl.Match(off, dot, 1), impl.Fit{X: -1, Y: -1, Z: -1})
	wantFit(t, "no further", impl.Match(off, dot, 2), impl.Fit{X: -1, Y: -1, Z: -1})
	// Nothing costs least where the most is shifted out of sight: all but voxel 1, which the first turns bring to each corner.
	wantFit(t, "out of sight", impl.Match(evenCube(2, 0), numbered(2, 2, 2), 1), impl.Fit{X: 1, Y: 1, Z: 1, Cost: 1})
	wantFit(t, "all out of sight", impl.Match(evenCube(2, 0), numbered(2, 2, 2), 2), impl.Fit{X: -2, Y: -2, Z: -2})
}

// wedge has another voxel at each place of the middle of a cube of n, and a rim of noughts of width rim.
func wedge(n, rim int64) impl.Volume {
	next := int64(0)
	return cubeOf(n, func(x, y, z int64) int64 {
		if min(x, y, z) < rim || max(x, y, z) >= n-rim {
			return 0
		}
		next++
		return next * 18
	})
}

func TestTurnedAndShiftedCubeIsFound(t *testing.T) {
	for n := int64(2); n <= impl.MaxCube; n++ {
		for rim := range min(n/2, 3) {
			if n-2*rim < 2 {
				continue
			}
			b := wedge(n, rim)
			for turn, by := range impl.Turns() {
				side := 2*rim + 1
				// Of many shifts some will do, others with each turn.
				for number := int64(turn) % side; number < side*side*side; number += max(1, 6*rim-5) {
					x, y, z := number/side/side-rim, number/side%side-rim, number%side-rim
					a := shifted(impl.TurnVolume(b, by), x, y, z)
					wantFit(t, []any{n, rim, turn, x, y, z}, impl.Match(a, b, max(rim, 1)), impl.Fit{Turn: int64(turn), X: x, Y: y, Z: z})
				}
			}
		}
	}
}

// The greatest cubes at the greatest reach end soon.
func TestGreatMatchEndsSoon(t *testing.T) {
	m := mixer(186)
	wantSoon(t, "match", func() {
		for range 20 {
			impl.Match(m.volume(6, 6, 6, impl.MaxTone), m.volume(6, 6, 6, impl.MaxTone), 2)
		}
	})
}
