package tests

import (
	"slices"
	"testing"

	"loop.example/g00050/impl"
)

func TestTurnListsAreNewMemory(t *testing.T) {
	mark := impl.Turn{W: 99}
	first, second := impl.Turns(), impl.Turns()
	fillWith(first, mark)
	third := append(second[:6], mark)
	if !slices.Equal(impl.Turns(), plainTurns()) || third[6] != mark {
		t.Error("shared memory")
	}
	fillWith(second, mark)
	if !slices.Equal(impl.Turns(), plainTurns()) {
		t.Error("shared memory")
	}
	// What is made of the turns doesn't hang on what was handed out.
	b := wedge(3, 0)
	wantFit(t, "match", impl.Match(impl.TurnVolume(b, impl.Turn{Y: 2}), b, 0), impl.Fit{Turn: 10})
	for _, turn := range rightTurns() {
		one, other := impl.TurnMatrix(turn), impl.TurnMatrix(turn)
		spoil(one)
		wantLists(t, turn, other, plainTurnMatrix(turn))
		wantLists(t, turn, impl.TurnMatrix(turn), plainTurnMatrix(turn))
	}
}

func TestTurnedVolumesAreNewMemory(t *testing.T) {
	m := mixer(192)
	for _, n := range []int64{1, 2, 3, 6} {
		for _, turn := range rightTurns() {
			was, wasOther := m.volume(n, n, n, 9), m.volume(n, n, n, 9)
			v := impl.Volume{NX: n, NY: n, NZ: n, Vox: roomy(was.Vox, 7)}
			other := impl.Volume{NX: n, NY: n, NZ: n, Vox: roomy(wasOther.Vox, 8)}
			answers := [][]int64{impl.TurnVolume(v, turn).Vox, impl.TurnVolume(v, impl.Turn{W: 2}).Vox, impl.TurnMatrix(turn)}
			again := [][]int64{impl.TurnVolume(v, turn).Vox, impl.TurnVolume(v, impl.Turn{W: 2}).Vox, impl.TurnMatrix(turn)}
			impl.FitCost(v, other, 3, 1, 0, -1)
			impl.Match(v, other, 1)
			if !stays(v.Vox, was.Vox, 7) || !stays(other.Vox, wasOther.Vox, 8) {
				t.Error("an argument changes", n, turn)
			}
			wantUnshared(t, []any{n, turn}, answers, again, v.Vox, other.Vox)
		}
	}
}

func TestJointsAreNewMemory(t *testing.T) {
	m := mixer(193)
	mark := impl.Joint{A: 99}
	for range 20 {
		was, wasOther := m.image(4, 3, 2), m.image(4, 3, 2)
		a, b := impl.Image{W: 4, H: 3, Pix: roomy(was.Pix, 7)}, impl.Image{W: 4, H: 3, Pix: roomy(wasOther.Pix, 8)}
		first, second := impl.JointCounts(a, b), impl.JointCounts(a, b)
		if !stays(a.Pix, was.Pix, 7) || !stays(b.Pix, wasOther.Pix, 8) {
			t.Error("an argument changes")
		}
		fillWith(first, mark)
		spoil(a.Pix)
		spoil(b.Pix)
		wantJoints(t, "shared memory", second, plainJoints(was, wasOther))
	}
}

// A refused argument is as it was, and what lies behind a list's length is neither written nor read.
func TestTurnsLeaveArguments(t *testing.T) {
	was := []int64{-3, 0, 2, 9}
	bend := roomy(was, 7)
	impl.BendOk(bend)
	impl.BendAt(bend, 20)
	impl.BendBack(bend, 20)
	impl.BendAt(bend, 49)
	impl.BendBack(bend, -49)
	if !stays(bend, was, 7) {
		t.Error("a bend changes")
	}
	store := []int64{0, 1, 1, 2000}
	if !impl.BendOk(store[:2]) || impl.BendOk(store[:1]) || impl.BendOk(store[:3]) {
		t.Error("what lies behind a bend is read")
	}
	at, ok := impl.BendAt(store[:2], 17)
	wantBent(t, "behind a bend", at, ok, 0, false)
	back, ok := impl.BendBack(store[:2], 17)
	wantBent(t, "behind a bend", back, ok, 0, false)
	falling := roomy([]int64{3, 2, 1}, 7)
	wantNoBend(t, falling)
	voxels := roomy([]int64{1, 2, 3, 4, 5, 6, 7}, 8)
	wrong := impl.Volume{NX: 2, NY: 2, NZ: 2, Vox: voxels}
	wantNoFitOf(t, "seven voxels", wrong, numbered(2, 2, 2))
	if !isZeroVolume(impl.TurnVolume(wrong, impl.Turn{W: 2})) {
		t.Error("what lies behind a volume is read")
	}
	pixels := roomy([]int64{1, 2, 3}, 4)
	wantJoints(t, "three pixels", impl.JointCounts(impl.Image{W: 2, H: 2, Pix: pixels}, impl.Image{W: 2, H: 2, Pix: make([]int64, 4)}), nil)
	if !stays(falling, []int64{3, 2, 1}, 7) || !stays(voxels, []int64{1, 2, 3, 4, 5, 6, 7}, 8) || !stays(pixels, []int64{1, 2, 3}, 4) {
		t.Error("what is refused changes")
	}
}

func TestTurnsNeverPanic(t *testing.T) {
	m := mixer(194)
	wild := []int64{leastInt, leastInt + 1, -1 << 32, -impl.MaxPix - 1, -impl.MaxTone - 1, -1001, -1000, -3, -2, -1, -1, 0, 0, 1, 1, 2, 2, 3, 6, 7, 11, 12, 16, 32, 33, 64, 65, 1000, 1001, impl.MaxTone, impl.MaxTone + 1, impl.MaxPix, impl.MaxPix + 1, 1 << 32, 1 << 62, mostInt - 1, mostInt}
	pick := func() int64 { return wild[m.pick(0, int64(len(wild)-1))] }
	list := func(n int64) []int64 {
		var out []int64
		for range n {
			out = append(out, pick())
		}
		return out
	}
	volume := func() impl.Volume {
		switch m.pick(0, 3) {
		case 0:
			return m.volume(2, 2, 2, 9)
		case 1:
			n := m.pick(1, 7)
			return m.volume(n, n, n, impl.MaxTone)
		case 2:
			return impl.Volume{NX: 1, NY: 1, NZ: 1, Vox: list(1)}
		}
		return impl.Volume{NX: pick(), NY: pick(), NZ: pick(), Vox: list(m.pick(0, 8))}
	}
	image := func() impl.Image {
		if m.pick(0, 1) == 1 {
			return m.image(2, 2, 1)
		}
		return impl.Image{W: pick(), H: pick(), Pix: list(m.pick(0, 4))}
	}
	for range 20000 {
		turns := [2]impl.Turn{{W: pick(), X: pick(), Y: pick(), Z: pick()}, {W: m.pick(-1, 1), X: m.pick(-1, 1), Y: m.pick(-1, 1), Z: m.pick(-1, 1)}}
		askTurns(t, turns, [2]impl.Volume{volume(), volume()}, [4]int64{pick(), pick(), pick(), pick()}, m.pick(-1, 2)*oneIf(m.pick(0, 9) == 0))
		askBends(t, list(m.pick(0, 4)), pick(), [2]impl.Image{image(), image()})
	}
	askTurns(t, [2]impl.Turn{}, [2]impl.Volume{}, [4]int64{}, 0)
	askBends(t, nil, 0, [2]impl.Image{})
}

// askTurns wants what is told together to be refused together.
func askTurns(t *testing.T, turns [2]impl.Turn, v [2]impl.Volume, n [4]int64, reach int64) {
	defer wantNoPanic(t, []any{turns, v, n, reach})
	for _, turn := range turns {
		ok := impl.TurnOk(turn)
		if ok != isRightTurn(quaternionOf(turn)) || ok != (len(impl.TurnMatrix(turn)) == 9) || ok != (impl.TurnBack(turn) != impl.Turn{}) {
			t.Error(turn)
		}
		if got := impl.TurnVolume(v[0], turn); !isZeroVolume(got) && !(ok && impl.VolumeOk(got)) {
			t.Error(v[0], turn, got)
		}
	}
	if both := impl.TurnOk(turns[0]) && impl.TurnOk(turns[1]); both != (impl.TurnMul(turns[0], turns[1]) != impl.Turn{}) {
		t.Error(turns)
	}
	fit := impl.Match(v[0], v[1], reach)
	if cost := impl.FitCost(v[0], v[1], fit.Turn, fit.X, fit.Y, fit.Z); cost != fit.Cost {
		t.Error(v, reach, fit, cost)
	}
	if cost := impl.FitCost(v[0], v[1], n[0], n[1], n[2], n[3]); cost < -1 || cost >= 0 && fit.Turn < 0 && reach >= 0 {
		t.Error(v, n, cost)
	}
	impl.Match(v[1], v[0], n[0])
}

func askBends(t *testing.T, bend []int64, n int64, images [2]impl.Image) {
	defer wantNoPanic(t, []any{bend, n, images})
	at, ok := impl.BendAt(bend, n)
	want, wantOk := plainBendAt(bend, n)
	wantBent(t, []any{"at", bend, n}, at, ok, want, wantOk)
	back, ok := impl.BendBack(bend, n)
	want, wantOk = plainBendBack(bend, n)
	wantBent(t, []any{"back", bend, n}, back, ok, want, wantOk)
	if impl.BendOk(bend) != isBend(bend) {
		t.Error(bend)
	}
	if got := impl.JointCounts(images[0], images[1]); len(got) != 0 && !(impl.ImageOk(images[0]) && impl.ImageOk(images[1])) {
		t.Error(images, got)
	}
}
