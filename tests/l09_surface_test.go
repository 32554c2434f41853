package tests

import (
	"slices"
	"testing"

	"loop.example/g00050/impl"
)

// wantSurface asks for each face in its order, and for what promise 12 says.
func wantSurface(t *testing.T, what any, v impl.Volume) []impl.Face {
	t.Helper()
	faces := impl.Surface(v)
	wantFaces(t, what, faces, plainSurface(v))
	if !impl.Closed(faces) {
		t.Errorf("%v: not closed", what)
	}
	if got := impl.Enclosed(faces); got != solidCount(v) {
		t.Errorf("%v: encloses %d, want %d", what, got, solidCount(v))
	}
	return faces
}

// solidVolume is told voxel by voxel.
func solidVolume(nx, ny, nz int64, solid func(x, y, z int64) bool) impl.Volume {
	v := impl.Volume{NX: nx, NY: ny, NZ: nz}
	for z := range nz {
		for y := range ny {
			for x := range nx {
				v.Vox = append(v.Vox, oneIf(solid(x, y, z)))
			}
		}
	}
	return v
}

func TestSurfacesPlainly(t *testing.T) {
	m := mixer(175)
	for bits := range int64(1) << 8 {
		wantSurface(t, bits, impl.Volume{NX: 2, NY: 2, NZ: 2, Vox: bitsOfMask(bits, 8)})
	}
	for bits := range int64(1) << 12 {
		wantSurface(t, bits, impl.Volume{NX: 3, NY: 2, NZ: 2, Vox: bitsOfMask(bits, 12)})
	}
	for range 400 {
		v := m.volume(m.pick(1, 6), m.pick(1, 6), m.pick(1, 6), []int64{1, 2, impl.MaxTone}[m.pick(0, 2)])
		wantSurface(t, v, v)
	}
}

func TestSurfacesOfSidesAtTheirLimits(t *testing.T) {
	m := mixer(176)
	for _, size := range [][3]int64{{1, 1, 1}, {32, 1, 1}, {1, 32, 1}, {1, 1, 32}, {32, 32, 1}, {32, 1, 32}, {1, 32, 32}, {31, 32, 2}} {
		wantSurface(t, size, m.volume(size[0], size[1], size[2], 3))
		wantSurface(t, size, solidVolume(size[0], size[1], size[2], func(_, _, _ int64) bool { return true }))
	}
	wantSoon(t, "the greatest volume", func() {
		full := wantSurface(t, "full", solidVolume(32, 32, 32, func(_, _, _ int64) bool { return true }))
		if len(full) != 6*32*32 {
			t.Error("full:", len(full))
		}
		chess := wantSurface(t, "each other voxel", solidVolume(32, 32, 32, func(x, y, z int64) bool { return (x+y+z)%2 == 0 }))
		if len(chess) != 98304 {
			t.Error("each other voxel:", len(chess))
		}
	})
}

func TestSurfacesByHand(t *testing.T) {
	wantFaces(t, "no voxel", impl.Surface(impl.Volume{NX: 2, NY: 1, NZ: 1, Vox: []int64{0, -1}}), nil)
	wantFaces(t, "no voxel", impl.Surface(impl.Volume{NX: 1, NY: 1, NZ: 1, Vox: []int64{-impl.MaxTone}}), nil)
	cube := facesOf([][5]int64{{0, 0, 0, 1, -1}, {1, 0, 0, 1, 1}, {0, 0, 0, 2, -1}, {0, 1, 0, 2, 1}, {0, 0, 0, 3, -1}, {0, 0, 1, 3, 1}})
	for _, tone := range []int64{1, 2, impl.MaxTone} {
		wantFaces(t, tone, impl.Surface(impl.Volume{NX: 1, NY: 1, NZ: 1, Vox: []int64{tone}}), cube)
	}
	corner := impl.Volume{NX: 3, NY: 4, NZ: 5, Vox: make([]int64, 60)}
	corner.Vox[59] = 1
	wantFaces(t, "the last voxel", impl.Surface(corner), facesOf([][5]int64{{2, 3, 4, 1, -1}, {3, 3, 4, 1, 1}, {2, 3, 4, 2, -1}, {2, 4, 4, 2, 1}, {2, 3, 4, 3, -1}, {2, 3, 5, 3, 1}}))
	wantFaces(t, "two at a face", impl.Surface(impl.Volume{NX: 1, NY: 2, NZ: 1, Vox: []int64{5, 6}}), facesOf([][5]int64{
		{0, 0, 0, 1, -1}, {1, 0, 0, 1, 1}, {0, 0, 0, 2, -1}, {0, 0, 0, 3, -1}, {0, 0, 1, 3, 1},
		{0, 1, 0, 1, -1}, {1, 1, 0, 1, 1}, {0, 2, 0, 2, 1}, {0, 1, 0, 3, -1}, {0, 1, 1, 3, 1}}))
	for _, c := range []struct {
		what         string
		v            impl.Volume
		count, solid int64
	}{
		{"two at a face, x", impl.Volume{NX: 2, NY: 1, NZ: 1, Vox: []int64{1, 1}}, 10, 2},
		{"two at a face, z", impl.Volume{NX: 1, NY: 1, NZ: 2, Vox: []int64{1, 1}}, 10, 2},
		{"two with one between that is none", impl.Volume{NX: 3, NY: 1, NZ: 1, Vox: []int64{1, -3, 1}}, 12, 2},
		{"two at an edge", impl.Volume{NX: 2, NY: 2, NZ: 1, Vox: []int64{1, 0, 0, 1}}, 12, 2},
		{"two at an edge, the other way", impl.Volume{NX: 2, NY: 2, NZ: 1, Vox: []int64{0, 1, 1, 0}}, 12, 2},
		{"two at a corner", impl.Volume{NX: 2, NY: 2, NZ: 2, Vox: []int64{1, 0, 0, 0, 0, 0, 0, 1}}, 12, 2},
		{"a row does not go on in the next one", impl.Volume{NX: 2, NY: 2, NZ: 1, Vox: []int64{0, 1, 1, 0}}, 12, 2},
		{"hollow", solidVolume(3, 3, 3, func(x, y, z int64) bool { return x != 1 || y != 1 || z != 1 }), 60, 26},
		{"a ring", solidVolume(3, 3, 1, func(x, y, _ int64) bool { return x != 1 || y != 1 }), 32, 8},
	} {
		if faces := wantSurface(t, c.what, c.v); int64(len(faces)) != c.count || impl.Enclosed(faces) != c.solid {
			t.Errorf("%s: %d faces around %d", c.what, len(faces), impl.Enclosed(faces))
		}
	}
}

func TestSurfacesOfWrongVolumes(t *testing.T) {
	for _, v := range wrongVolumes() {
		for i := range v.Vox { // with something solid in it
			if v.Vox[i] == 0 {
				v.Vox[i] = 1
			}
		}
		if faces := impl.Surface(v); len(faces) != 0 {
			t.Errorf("%d %d %d %s: %d faces", v.NX, v.NY, v.NZ, brief(v.Vox), len(faces))
		}
	}
}

func cubeFaces(x, y, z int64) []impl.Face {
	return facesOf([][5]int64{{x, y, z, 1, -1}, {x + 1, y, z, 1, 1}, {x, y, z, 2, -1}, {x, y + 1, z, 2, 1}, {x, y, z, 3, -1}, {x, y, z + 1, 3, 1}})
}

func wantClosed(t *testing.T, what any, faces []impl.Face, want bool) {
	t.Helper()
	if got := impl.Closed(faces); got != want {
		t.Errorf("%v: closed %v", what, got)
	}
	if got := plainClosed(faces); got != want {
		t.Errorf("%v: the plain reckoning says %v", what, got)
	}
	if got := impl.Enclosed(faces); got != plainEnclosed(faces) {
		t.Errorf("%v: encloses %d, want %d", what, got, plainEnclosed(faces))
	}
}

func TestClosedByHand(t *testing.T) {
	cube := cubeFaces(3, 4, 5)
	wantClosed(t, "no face", nil, true)
	wantClosed(t, "no face", []impl.Face{}, true)
	wantClosed(t, "a cube", cube, true)
	for at, face := range cube {
		wantClosed(t, []any{"without", face}, slices.Delete(slices.Clone(cube), at, at+1), false)
		wantClosed(t, []any{"twice", face}, append(slices.Clone(cube), face), false)
		wantClosed(t, []any{"alone", face}, []impl.Face{face}, false)
		wantClosed(t, []any{"there and back", face}, []impl.Face{face, turnedRound(face)}, true)
		wantClosed(t, []any{"twice there, once back", face}, []impl.Face{face, turnedRound(face), face}, false)
		round := slices.Clone(cube)
		round[at] = turnedRound(face)
		wantClosed(t, []any{"turned round", face}, round, false)
		for axis := range int64(3) { // and set off by one
			off := slices.Clone(cube)
			switch axis {
			case 0:
				off[at].X++
			case 1:
				off[at].Y++
			default:
				off[at].Z--
			}
			wantClosed(t, []any{"set off", face, axis}, off, false)
		}
	}
	inward := slices.Clone(cube)
	for at := range inward {
		inward[at] = turnedRound(inward[at])
	}
	wantClosed(t, "turned round as a whole", inward, true)
	wantClosed(t, "inside out and outside in", slices.Concat(cube, inward), true)
	wantClosed(t, "each face twice", slices.Concat(cube, cube), true)
	wantClosed(t, "two cubes that share an edge", slices.Concat(cube, cubeFaces(4, 5, 5)), true)
	wantClosed(t, "two cubes that share a corner", slices.Concat(cube, cubeFaces(4, 5, 6)), true)
	wantClosed(t, "two cubes that share a face, with it", slices.Concat(cube, cubeFaces(4, 4, 5)), true)
	wantClosed(t, "two cubes that share an edge, one turned round", slices.Concat(inward, cubeFaces(4, 5, 5)), true)
	wantClosed(t, "two cubes, a face of the one for one of the other", slices.Concat(cube[1:], cubeFaces(8, 8, 8), cubeFaces(8, 8, 8)[:1]), false)
	wantClosed(t, "opposite faces alone", cube[:2], false)
	wantClosed(t, "a tube", cube[:4], false)
	wantClosed(t, "at the far corner", cubeFaces(31, 31, 31), true)
}

// Faces that go past the last corner are told of as any: their least corner is in its limits.
func TestFacesAtTheFarEdge(t *testing.T) {
	far := impl.Face{X: 32, Y: 32, Z: 32, Axis: 1, Sign: 1}
	wantClosed(t, "one", []impl.Face{far}, false)
	wantClosed(t, "there and back", []impl.Face{far, turnedRound(far)}, true)
	if got := impl.Enclosed([]impl.Face{far, far, far}); got != 96 {
		t.Error(got)
	}
}

// Surfaces from which a face is taken, or put in twice, or turned round, and surfaces laid together in any order.
func TestClosedPlainly(t *testing.T) {
	m := mixer(177)
	mixed := func(faces []impl.Face) []impl.Face {
		out := slices.Clone(faces)
		for i := range out {
			j := m.pick(0, int64(i))
			out[i], out[j] = out[j], out[i]
		}
		return out
	}
	for range 400 {
		one, two := impl.Surface(m.volume(m.pick(1, 3), m.pick(1, 3), m.pick(1, 3), 2)), impl.Surface(m.volume(2, 2, 2, 1))
		wantClosed(t, "together", mixed(slices.Concat(one, two)), true)
		if len(one) == 0 {
			continue
		}
		at := int(m.pick(0, int64(len(one)-1)))
		wantClosed(t, "without one", mixed(slices.Concat(one[:at], one[at+1:], two)), false)
		wantClosed(t, "with one twice", mixed(slices.Concat(one, two, one[at:at+1])), false)
		round := slices.Clone(one)
		round[at] = turnedRound(round[at])
		wantClosed(t, "with one turned round", mixed(slices.Concat(round, two)), false)
	}
	for range 20000 {
		var faces []impl.Face
		for range m.pick(1, 7) {
			faces = append(faces, impl.Face{X: m.pick(0, 1), Y: m.pick(0, 1), Z: m.pick(0, 1), Axis: m.pick(1, 3), Sign: 2*m.pick(0, 1) - 1})
		}
		wantClosed(t, faces, faces, plainClosed(faces))
	}
}

// withFaceNumber is a face with one of its numbers changed.
func withFaceNumber(face impl.Face, at int, number int64) impl.Face {
	switch at {
	case 0:
		face.X = number
	case 1:
		face.Y = number
	case 2:
		face.Z = number
	case 3:
		face.Axis = number
	default:
		face.Sign = number
	}
	return face
}

func isFaceNumber(at int, number int64) bool {
	switch at {
	case 3:
		return number == 1 || number == 2 || number == 3
	case 4:
		return number == 1 || number == -1
	}
	return 0 <= number && number <= 32
}

func TestFaceLimits(t *testing.T) {
	numbers := []int64{-2, -1, 0, 1, 2, 3, 4, 5, 31, 32, 33, 34, 256, 1 << 32, 1<<32 + 1, -1 << 32, 1 << 62, leastInt, leastInt + 1, mostInt - 1, mostInt}
	for _, base := range facesOf([][5]int64{{7, 8, 9, 1, 1}, {7, 8, 9, 2, -1}, {0, 0, 32, 3, 1}, {32, 32, 32, 1, -1}}) {
		for at := range 5 {
			for _, number := range numbers {
				face := withFaceNumber(base, at, number)
				ahead := facesOf([][5]int64{{5, 0, 0, 1, 1}, {5, 0, 0, 1, -1}, {9, 1, 1, 1, 1}, {9, 1, 1, 1, -1}, {6, 1, 1, 1, 1}, {5, 1, 1, 1, -1}})
				right := isFaceNumber(at, number)
				back := turnedRound(face)
				for place := range len(ahead) + 1 {
					faces := slices.Insert(slices.Clone(ahead), place, face)
					want := plainEnclosed(faces)
					if !right {
						want = 0
					}
					if got := impl.Enclosed(faces); got != want {
						t.Errorf("%v at %d: encloses %d, want %d", face, place, got, want)
					}
				}
				if got := impl.Closed([]impl.Face{face, back}); got != right {
					t.Errorf("%v there and back: closed %v", face, got)
				}
				if got := impl.Closed(slices.Concat(cubeFaces(1, 1, 1), []impl.Face{back, face}, cubeFaces(1, 1, 1))); got != right {
					t.Errorf("%v there and back between cubes: closed %v", face, got)
				}
			}
		}
	}
}

func TestManyFaces(t *testing.T) {
	face := impl.Face{X: 32, Y: 1, Z: 2, Axis: impl.AxX, Sign: 1}
	most := slices.Repeat([]impl.Face{face}, impl.MaxFaces)
	wantSoon(t, "many faces", func() {
		if got := impl.Enclosed(most); got != 32*131072 {
			t.Error("as many as can be:", got)
		}
		if got := impl.Enclosed(append(most, face)); got != 0 {
			t.Error("one more:", got)
		}
		pairs := slices.Repeat([]impl.Face{face, turnedRound(face)}, impl.MaxFaces/2)
		if !impl.Closed(pairs) {
			t.Error("as many pairs as can be are closed")
		}
		if impl.Closed(append(pairs, face)) || impl.Closed(append(pairs, face, turnedRound(face))) {
			t.Error("more are refused")
		}
		if impl.Closed(most) {
			t.Error("one way alone")
		}
		spread := slices.Repeat(slices.Concat(cubeFaces(0, 1, 2), cubeFaces(9, 8, 7)), impl.MaxFaces/12)
		if !impl.Closed(spread) || impl.Enclosed(spread) != int64(impl.MaxFaces/12*2) {
			t.Error("cubes laid on one another")
		}
		if impl.Closed(spread[1:]) {
			t.Error("one face is missing")
		}
	})
}
