package tests

import (
	"testing"

	"loop.example/g00050/impl"
)

func TestTurnVolumeByHand(t *testing.T) {
	v := numbered(2, 2, 2)
	for _, row := range []struct {
		turn impl.Turn
		want []int64
	}{
		{impl.Turn{W: 2}, []int64{1, 2, 3, 4, 5, 6, 7, 8}},
		{impl.Turn{X: 2}, []int64{7, 8, 5, 6, 3, 4, 1, 2}},
		{impl.Turn{Y: 2}, []int64{6, 5, 8, 7, 2, 1, 4, 3}},
		{impl.Turn{Z: 2}, []int64{4, 3, 2, 1, 8, 7, 6, 5}},
		// What lay along x lies along y, what lay along y along z, what lay along z along x.
		{impl.Turn{W: 1, X: 1, Y: 1, Z: 1}, []int64{1, 5, 2, 6, 3, 7, 4, 8}},
		{impl.Turn{W: 1, X: -1, Y: -1, Z: -1}, []int64{1, 3, 5, 7, 2, 4, 6, 8}},
	} {
		wantVolume(t, row.turn, impl.TurnVolume(v, row.turn), impl.Volume{NX: 2, NY: 2, NZ: 2, Vox: row.want})
	}
	line := cubeOf(3, func(x, y, z int64) int64 { return oneIf(y == 1 && z == 1) * (x + 1) })
	for _, row := range []struct {
		turn    impl.Turn
		x, y, z int64
	}{{impl.Turn{W: 2}, 2, 1, 1}, {impl.Turn{Z: 2}, 0, 1, 1}, {impl.Turn{W: 1, X: 1, Y: 1, Z: 1}, 1, 2, 1}, {impl.Turn{W: 1, X: 1, Y: 1, Z: -1}, 1, 1, 0}} {
		got := impl.TurnVolume(line, row.turn)
		if voxelAt(got, row.x, row.y, row.z) != 3 || voxelAt(got, 1, 1, 1) != 2 {
			t.Error(row, got)
		}
	}
}

// The document's words, place by place: of all q there is one for each p.
func TestTurnVolumeOfSmallCubes(t *testing.T) {
	m := mixer(181)
	for n := int64(1); n <= 3; n++ {
		for _, v := range []impl.Volume{numbered(n, n, n), m.volume(n, n, n, impl.MaxTone), evenCube(n, impl.MaxTone), evenCube(n, -impl.MaxTone)} {
			for _, turn := range rightTurns() {
				got := impl.TurnVolume(v, turn)
				wantTurnedByWords(t, v, turn, got)
				wantVolume(t, turn, got, plainTurnVolume(v, turn))
			}
		}
	}
}

func wantTurnedByWords(t *testing.T, v impl.Volume, turn impl.Turn, got impl.Volume) {
	t.Helper()
	n := v.NX
	if got.NX != n || got.NY != n || got.NZ != n || int64(len(got.Vox)) != n*n*n {
		t.Fatal(n, turn, got)
	}
	mat := plainTurnMatrix(turn)
	for p := range n * n * n {
		for q := range n * n * n {
			from, same := [3]int64{2*(q%n) - n + 1, 2*(q/n%n) - n + 1, 2*(q/n/n) - n + 1}, true
			for row, place := range [3]int64{p % n, p / n % n, p / n / n} {
				same = same && 2*place-(n-1) == mat[row*3]*from[0]+mat[row*3+1]*from[1]+mat[row*3+2]*from[2]
			}
			if same && got.Vox[p] != v.Vox[q] {
				t.Error(n, turn, p, q, got.Vox[p], v.Vox[q])
			}
		}
	}
}

func TestTurnVolumeOfGreatCubes(t *testing.T) {
	m := mixer(182)
	for _, n := range []int64{4, 5, 6, 7, 8, 31, 32} {
		v := m.volume(n, n, n, impl.MaxTone)
		for _, turn := range rightTurns() {
			got := impl.TurnVolume(v, turn)
			wantVolume(t, []any{n, turn}, got, plainTurnVolume(v, turn))
			if !impl.VolumeOk(got) {
				t.Error("not right", n, turn)
			}
			wantVolume(t, []any{"negative", n, turn}, impl.TurnVolume(v, impl.Turn{W: -turn.W, X: -turn.X, Y: -turn.Y, Z: -turn.Z}), got)
		}
	}
}

// Promise 13: turning by two is turning by their product, and the way back is one.
func TestTurnVolumeByTwo(t *testing.T) {
	for _, n := range []int64{1, 2, 3, 4, 5} {
		v := numbered(n, n, n)
		for _, a := range rightTurns() {
			for _, b := range rightTurns() {
				first := impl.TurnVolume(v, b)
				wantVolume(t, []any{n, a, b}, impl.TurnVolume(first, a), impl.TurnVolume(v, impl.TurnMul(a, b)))
			}
			wantVolume(t, []any{"back", n, a}, impl.TurnVolume(impl.TurnVolume(v, a), impl.TurnBack(a)), v)
		}
	}
}

func TestTurnVolumeIsRefused(t *testing.T) {
	for _, turn := range rightTurns() {
		for _, v := range append(wrongVolumes(), noCubes()...) {
			if got := impl.TurnVolume(v, turn); !isZeroVolume(got) {
				t.Error(v, turn, got)
			}
		}
	}
	for _, turn := range wrongTurns() {
		for _, v := range []impl.Volume{numbered(1, 1, 1), numbered(2, 2, 2), numbered(1, 2, 2), {}} {
			if got := impl.TurnVolume(v, turn); !isZeroVolume(got) {
				t.Error(v, turn, got)
			}
		}
	}
	for _, n := range []int64{33, 34, 64, 0, -1, -2, 1 << 21, leastInt, mostInt} {
		v := impl.Volume{NX: n, NY: n, NZ: n, Vox: make([]int64, min(max(n, 0), 64)*min(max(n, 0), 64)*min(max(n, 0), 64))}
		if got := impl.TurnVolume(v, impl.Turn{W: 2}); !isZeroVolume(got) {
			t.Error(n, got.NX)
		}
	}
}
