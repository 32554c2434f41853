package tests

import (
	"math/big"
	"slices"
	"testing"

	"loop.example/g00050/impl"
)

// edgesOfSize are an edge's limits, one past each, and both ends of int64.
func edgesOfSize() []int64 {
	return []int64{leastInt, leastInt + 1, -1 << 32, -32, -1, 0, 1, 2, 31, 32, 33, 64, 1 << 32, 1<<32 + 1, 1 << 62, mostInt - 1, mostInt}
}

func TestVolumeOkOfEdges(t *testing.T) {
	for at := range 3 {
		for _, edge := range edgesOfSize() {
			for _, other := range []int64{1, 2, 32} {
				e := [3]int64{other, other, other}
				e[at] = edge
				right := edge >= 1 && edge <= 32
				for _, n := range []int64{0, 1, 32, e[0] * e[1] * e[2]} {
					v := impl.Volume{NX: e[0], NY: e[1], NZ: e[2], Vox: make([]int64, min(max(n, 0), 70000))}
					if impl.VolumeOk(v) != (right && int64(len(v.Vox)) == e[0]*e[1]*e[2]) {
						t.Error(e, len(v.Vox))
					}
				}
			}
		}
	}
	for _, e := range [][3]int64{{1, 1, 1}, {2, 3, 4}, {32, 32, 32}, {32, 1, 1}, {1, 32, 1}, {1, 1, 32}} {
		n := e[0] * e[1] * e[2]
		all := make([]int64, n+1)
		for _, count := range []int64{0, n - 1, n, n + 1} {
			if impl.VolumeOk(impl.Volume{NX: e[0], NY: e[1], NZ: e[2], Vox: all[:count]}) != (count == n) {
				t.Error(e, count)
			}
		}
	}
	for _, v := range wrongVolumes() {
		if impl.VolumeOk(v) {
			t.Error(v)
		}
	}
	// A product that is right once it has wrapped round.
	if impl.VolumeOk(impl.Volume{NX: 1 << 32, NY: 1 << 32, NZ: 1}) || impl.VolumeOk(impl.Volume{NX: -1, NY: -1, NZ: 1, Vox: []int64{1}}) {
		t.Error("a product")
	}
}

func TestVolumeOkOfVoxels(t *testing.T) {
	for _, tone := range []int64{0, 1, -1, impl.MaxTone, impl.MaxTone + 1, -impl.MaxTone, -impl.MaxTone - 1, leastInt, mostInt, 1 << 32} {
		for at := range 12 {
			v := numbered(2, 3, 2)
			v.Vox[at] = tone
			if impl.VolumeOk(v) != (tone >= -4095 && tone <= 4095) {
				t.Error(at, tone)
			}
		}
	}
}

// plainReslice is the document's volume for a right volume, a right frame and right edges.
func plainReslice(v impl.Volume, f impl.Frame, nx, ny, nz int64) impl.Volume {
	out := impl.Volume{NX: nx, NY: ny, NZ: nz, Vox: make([]int64, nx*ny*nz)}
	for x := range nx {
		for y := range ny {
			for z := range nz {
				to := affineOf(f).moved([3]*big.Rat{ratio(x, 1), ratio(y, 1), ratio(z, 1)})
				out.Vox[(z*ny+y)*nx+x] = voxelAt(v, halfAndDown(to[0]), halfAndDown(to[1]), halfAndDown(to[2]))
			}
		}
	}
	return out
}

// halfAndDown is r and a half, rounded down.
func halfAndDown(r *big.Rat) int64 {
	more := new(big.Rat).Add(r, ratio(1, 2))
	return new(big.Int).Div(more.Num(), more.Denom()).Int64()
}

func wantVolume(t *testing.T, what any, got, want impl.Volume) {
	t.Helper()
	if got.NX != want.NX || got.NY != want.NY || got.NZ != want.NZ || !slices.Equal(got.Vox, want.Vox) {
		t.Errorf("%v: %d %d %d %s, want %d %d %d %s", what, got.NX, got.NY, got.NZ, brief(got.Vox), want.NX, want.NY, want.NZ, brief(want.Vox))
	}
}

func wantResliced(t *testing.T, what any, v impl.Volume, f impl.Frame, nx, ny, nz int64) {
	t.Helper()
	got := impl.Reslice(v, f, nx, ny, nz)
	wantVolume(t, []any{what, f, nx, ny, nz}, got, plainReslice(v, f, nx, ny, nz))
	if !impl.VolumeOk(got) {
		t.Error("not right", what, f)
	}
}

func TestReslicePlainly(t *testing.T) {
	m := mixer(131)
	for _, f := range append(m.frames(20), still()) {
		wantResliced(t, "drawn", m.volume(m.pick(1, 6), m.pick(1, 6), m.pick(1, 6), impl.MaxTone), f, m.pick(1, 6), m.pick(1, 6), m.pick(1, 6))
	}
	for range 200 { // maps that stay near the volume
		f := impl.Frame{M: m.frame(3, 1).M, T: []int64{m.pick(-9, 9), m.pick(-9, 9), m.pick(-9, 9)}, D: m.pick(1, 4)}
		if plainFrameOk(f) {
			wantResliced(t, "near", numbered(4, 5, 6), f, 5, 4, 3)
		}
	}
	wantResliced(t, "whole", numbered(32, 32, 32), still(), 32, 32, 32)
	wantResliced(t, "half as coarse", numbered(32, 31, 30), diagonal(1, 1, 1, 2), 32, 32, 32)
	wantResliced(t, "far", numbered(3, 3, 3), impl.Frame{M: still().M, T: []int64{1000000, -1000000, 1000000}, D: 1}, 4, 4, 4)
	wantResliced(t, "steep", numbered(3, 3, 3), diagonal(1000000, -1000000, 1000000, 1), 32, 2, 2)
}

func TestResliceIsAsGivenWhereNothingMoves(t *testing.T) {
	for _, e := range [][3]int64{{1, 1, 1}, {2, 3, 4}, {4, 3, 2}, {32, 1, 5}, {1, 32, 32}, {32, 32, 32}} {
		v := numbered(e[0], e[1], e[2])
		wantVolume(t, e, impl.Reslice(v, still(), e[0], e[1], e[2]), v)
	}
}

// A line of voxels 1, 2, 3 along one axis, asked along that axis.
func wantAlong(t *testing.T, what any, axis int, factor, shift, scale int64, want []int64) {
	t.Helper()
	edges, ask := [3]int64{1, 1, 1}, [3]int64{1, 1, 1}
	edges[axis], ask[axis] = 3, int64(len(want))
	v := impl.Volume{NX: edges[0], NY: edges[1], NZ: edges[2], Vox: []int64{1, 2, 3}}
	f := withNumber(withNumber(still(), axis*4, factor), 9+axis, shift)
	f.D = scale
	got := impl.Reslice(v, f, ask[0], ask[1], ask[2])
	wantVolume(t, []any{what, axis}, got, impl.Volume{NX: ask[0], NY: ask[1], NZ: ask[2], Vox: want})
}

func TestResliceAtHalf(t *testing.T) {
	for axis := range 3 {
		wantAlong(t, "halves", axis, 1, 0, 2, []int64{1, 2, 2, 3, 3, 0, 0})
		wantAlong(t, "halves from below 0", axis, 1, -4, 2, []int64{0, 0, 0, 1, 1, 2, 2, 3, 3, 0})
		wantAlong(t, "halves, backward", axis, -1, 5, 2, []int64{0, 3, 3, 2, 2, 1, 1, 0})
		wantAlong(t, "quarters from below 0", axis, 1, -3, 4, []int64{0, 1, 1, 1, 1, 2, 2, 2, 2, 3, 3, 3, 3})
		wantAlong(t, "thirds from below 0", axis, 1, -2, 3, []int64{0, 1, 1, 1, 2, 2, 2, 3, 3, 3, 0})
		wantAlong(t, "from a little less than a half on", axis, 1, 499999, 1000000, []int64{1, 2, 2})
		wantAlong(t, "from a little more than a half below 0 on", axis, 1, -500001, 1000000, []int64{0, 1, 1})
		wantAlong(t, "a half behind the last, and a little less", axis, 1, 999999, 400000, []int64{3, 0})
	}
}

func TestResliceOutsideOnEachSide(t *testing.T) {
	for axis := range 3 {
		wantAlong(t, "both sides", axis, 1, -1, 1, []int64{0, 1, 2, 3, 0})
		wantAlong(t, "both sides, backward", axis, -1, 3, 1, []int64{0, 3, 2, 1, 0})
		wantAlong(t, "every other", axis, 2, -2, 1, []int64{0, 1, 3, 0})
		wantAlong(t, "far", axis, 1000000, -1000000, 1, []int64{0, 1, 0})
	}
	// Beside one edge, where the list has a voxel at that number all the same.
	v := numbered(2, 2, 2)
	for at := 9; at < 12; at++ {
		for _, shift := range []int64{-2, -1, 2} {
			wantResliced(t, shift, v, withNumber(still(), at, shift), 2, 2, 2)
			wantResliced(t, shift, v, withNumber(still(), at, shift), 3, 3, 3)
		}
	}
	got := impl.Reslice(v, withNumber(still(), 9, 1), 2, 2, 2)
	wantVolume(t, "a step across", got, impl.Volume{NX: 2, NY: 2, NZ: 2, Vox: []int64{2, 0, 4, 0, 6, 0, 8, 0}})
	got = impl.Reslice(v, withNumber(still(), 10, -1), 2, 2, 2)
	wantVolume(t, "a step back", got, impl.Volume{NX: 2, NY: 2, NZ: 2, Vox: []int64{0, 0, 1, 2, 0, 0, 5, 6}})
}

func wantNoReslice(t *testing.T, what any, v impl.Volume, f impl.Frame, nx, ny, nz int64) {
	t.Helper()
	defer wantNoPanic(t, what)
	if got := impl.Reslice(v, f, nx, ny, nz); !isZeroVolume(got) {
		t.Errorf("%v: %v", what, got)
	}
}

func TestResliceAtTheLimits(t *testing.T) {
	v := numbered(2, 3, 2)
	for at := range 3 {
		for _, edge := range edgesOfSize() {
			for _, other := range []int64{1, 2, 32} {
				e := [3]int64{other, other, other}
				e[at] = edge
				if edge >= 1 && edge <= 32 {
					wantVolume(t, e, impl.Reslice(v, still(), e[0], e[1], e[2]), plainPadding(v, e[0], e[1], e[2]))
				} else {
					wantNoReslice(t, e, v, still(), e[0], e[1], e[2])
				}
			}
		}
	}
	for _, wrong := range wrongVolumes() {
		wantNoReslice(t, wrong, wrong, still(), 2, 2, 2)
	}
	for _, wrong := range wrongFrames() {
		wantNoReslice(t, wrong, v, wrong, 2, 2, 2)
	}
	wantNoReslice(t, "all is wrong", impl.Volume{}, impl.Frame{}, 0, 0, 0)
}

// plainPadding is what v has at these places, as they are.
func plainPadding(v impl.Volume, nx, ny, nz int64) impl.Volume {
	out := impl.Volume{NX: nx, NY: ny, NZ: nz}
	for z := range nz {
		for y := range ny {
			for x := range nx {
				out.Vox = append(out.Vox, voxelAt(v, x, y, z))
			}
		}
	}
	return out
}

// plainBrightest asks all voxels of a right volume for each pixel.
func plainBrightest(v impl.Volume, axis int64) impl.Image {
	im := impl.Image{W: v.NX, H: v.NZ}
	switch axis {
	case impl.AxX:
		im.W = v.NY
	case impl.AxZ:
		im.H = v.NY
	}
	im.Pix = slices.Repeat([]int64{leastInt}, int(im.W*im.H))
	for i, tone := range v.Vox {
		x, y, z := int64(i)%v.NX, int64(i)/v.NX%v.NY, int64(i)/v.NX/v.NY
		at := map[int64]int64{impl.AxX: z*im.W + y, impl.AxY: z*im.W + x, impl.AxZ: y*im.W + x}[axis]
		im.Pix[at] = max(im.Pix[at], tone)
	}
	return im
}

func TestBrightestPlainly(t *testing.T) {
	m := mixer(132)
	for _, e := range [][3]int64{{1, 1, 1}, {2, 3, 4}, {4, 3, 2}, {3, 2, 4}, {5, 1, 7}, {1, 6, 2}, {32, 1, 3}, {3, 32, 1}, {1, 3, 32}, {32, 32, 32}, {31, 32, 30}} {
		for _, axis := range []int64{impl.AxX, impl.AxY, impl.AxZ} {
			for _, v := range []impl.Volume{m.volume(e[0], e[1], e[2], impl.MaxTone), m.volume(e[0], e[1], e[2], 2), numbered(e[0], e[1], e[2])} {
				got := impl.Brightest(v, axis)
				wantImage(t, []any{e, axis}, got, plainBrightest(v, axis))
				if !impl.ImageOk(got) {
					t.Error("not right", e, axis)
				}
				for i := range v.Vox { // all below 0
					v.Vox[i] = -max(v.Vox[i], -v.Vox[i], 1)
				}
				wantImage(t, []any{"below 0", e, axis}, impl.Brightest(v, axis), plainBrightest(v, axis))
			}
		}
	}
}

func TestBrightestByHand(t *testing.T) {
	v := impl.Volume{NX: 3, NY: 2, NZ: 1, Vox: []int64{-5, -3, -9, -4, -8, -2}}
	wantImage(t, "x", impl.Brightest(v, impl.AxX), impl.Image{W: 2, H: 1, Pix: []int64{-3, -2}})
	wantImage(t, "y", impl.Brightest(v, impl.AxY), impl.Image{W: 3, H: 1, Pix: []int64{-4, -3, -2}})
	wantImage(t, "z", impl.Brightest(v, impl.AxZ), impl.Image{W: 3, H: 2, Pix: v.Vox})
	least := impl.Volume{NX: 2, NY: 1, NZ: 1, Vox: []int64{-4095, -4095}}
	wantImage(t, "the least", impl.Brightest(least, impl.AxX), impl.Image{W: 1, H: 1, Pix: []int64{-4095}})
}

func TestBrightestOfNone(t *testing.T) {
	for _, axis := range []int64{0, 4, -1, 5, 1 << 32, 1<<32 + 1, leastInt, leastInt + 1, mostInt} {
		if im := impl.Brightest(numbered(2, 3, 4), axis); !isZeroImage(im) {
			t.Error(axis, im)
		}
	}
	for _, v := range wrongVolumes() {
		for axis := int64(0); axis <= 4; axis++ {
			if im := impl.Brightest(v, axis); !isZeroImage(im) {
				t.Error(v, axis, im)
			}
		}
	}
}

// plainWindow is the document's pixel, for a right window.
func plainWindow(pixel, low, high int64) int64 {
	switch {
	case pixel <= low:
		return 0
	case pixel >= high:
		return 255
	}
	share := new(big.Int).Mul(big.NewInt(255), big.NewInt(pixel-low))
	return share.Div(share, big.NewInt(high-low)).Int64()
}

func wantWindow(t *testing.T, im impl.Image, low, high int64) {
	t.Helper()
	want := impl.Image{W: im.W, H: im.H}
	for _, pixel := range im.Pix {
		want.Pix = append(want.Pix, plainWindow(pixel, low, high))
	}
	wantImage(t, []int64{low, high}, impl.Window(im, low, high), want)
}

func TestWindowPlainly(t *testing.T) {
	m := mixer(133)
	for range 300 {
		low := m.pick(-300, 300)
		high := m.pick(low+1, low+600)
		wantWindow(t, m.image(m.pick(1, 9), m.pick(1, 9), 700), low, high)
	}
	const most = impl.MaxPix
	for _, c := range [][2]int64{{-most, most}, {-most, 1 - most}, {most - 1, most}, {-most, 0}, {0, most}, {-1, most}, {0, 1}, {-1, 0}, {0, 2}, {0, 3}, {0, 254}, {0, 255}, {0, 256}, {-3, 257}, {-most, most - 1}, {1 - most, most}} {
		low, high := c[0], c[1]
		pixels := []int64{-most, most, 1 - most, most - 1, 0, 1, -1, low, high, min(low+1, most), max(high-1, -most), max(low-1, -most), min(high+1, most), low + (high-low)/2, low + (high-low)/255, low + (high-low)/255 + 1, low + (high-low)/3}
		wantWindow(t, impl.Image{W: int64(len(pixels)), H: 1, Pix: pixels}, low, high)
		wantWindow(t, m.image(64, 64, most), low, high)
		wantWindow(t, impl.Image{W: 1, H: 1, Pix: []int64{low}}, low, high)
	}
}

func TestWindowByHand(t *testing.T) {
	im := impl.Image{W: 7, H: 1, Pix: []int64{-3, -2, -1, 0, 1, 2, 3}}
	wantImage(t, "rounded down", impl.Window(im, -2, 2), impl.Image{W: 7, H: 1, Pix: []int64{0, 0, 63, 127, 191, 255, 255}})
	wantImage(t, "one step", impl.Window(im, 0, 1), impl.Image{W: 7, H: 1, Pix: []int64{0, 0, 0, 0, 255, 255, 255}})
	wantImage(t, "nearly all", impl.Window(im, -impl.MaxPix, impl.MaxPix), impl.Image{W: 7, H: 1, Pix: []int64{127, 127, 127, 127, 127, 127, 127}})
	ends := impl.Image{W: 2, H: 2, Pix: []int64{-impl.MaxPix, impl.MaxPix, 1 - impl.MaxPix, impl.MaxPix - 1}}
	wantImage(t, "all", impl.Window(ends, -impl.MaxPix, impl.MaxPix), impl.Image{W: 2, H: 2, Pix: []int64{0, 255, 0, 254}})
}

func TestWindowAtTheLimits(t *testing.T) {
	const most = impl.MaxPix
	im := impl.Image{W: 3, H: 1, Pix: []int64{-7, 0, 7}}
	edges := []int64{leastInt, leastInt + 1, -1 << 32, -most - 1, -most, 1 - most, -1, 0, 1, 2, most - 1, most, most + 1, 1 << 32, mostInt - 1, mostInt}
	for _, low := range edges {
		for _, high := range edges {
			if -most <= low && low < high && high <= most {
				wantWindow(t, im, low, high)
			} else if got := impl.Window(im, low, high); !isZeroImage(got) {
				t.Error(low, high, got)
			}
		}
	}
	for _, wrong := range wrongImages() {
		if got := impl.Window(wrong, 0, 10); !isZeroImage(got) {
			t.Error(wrong, got)
		}
	}
}

func TestVolumesAreNewMemory(t *testing.T) {
	m := mixer(134)
	for _, e := range [][3]int64{{1, 1, 1}, {2, 3, 4}, {1, 1, 5}, {7, 1, 1}, {1, 6, 1}} {
		for _, f := range []impl.Frame{still(), diagonal(1, 1, 1, 2), diagonal(2, 2, 2, 2)} {
			was := m.volume(e[0], e[1], e[2], impl.MaxTone)
			v := impl.Volume{NX: e[0], NY: e[1], NZ: e[2], Vox: roomy(was.Vox, 77)}
			g := impl.Frame{M: roomy(f.M, 78), T: roomy(f.T, 79), D: f.D}
			im := impl.Image{W: e[0], H: e[1], Pix: roomy(was.Vox[:e[0]*e[1]], 80)}
			answers, again := volumeAnswers(v, g, im), volumeAnswers(v, g, im)
			if !stays(v.Vox, was.Vox, 77) || !stays(g.M, f.M, 78) || !stays(g.T, f.T, 79) || !stays(im.Pix, was.Vox[:e[0]*e[1]], 80) {
				t.Error("an argument changes", e)
			}
			var want [][]int64
			for _, list := range again {
				want = append(want, slices.Clone(list))
			}
			for _, list := range append(answers, v.Vox, g.M, g.T, im.Pix) {
				spoil(list)
			}
			for i := range again {
				wantLists(t, []any{"shared memory", e, i}, again[i], want[i])
				spoil(again[i])
			}
		}
	}
}

func volumeAnswers(v impl.Volume, f impl.Frame, im impl.Image) [][]int64 {
	impl.VolumeOk(v)
	return [][]int64{impl.Reslice(v, f, v.NX, v.NY, v.NZ).Vox, impl.Brightest(v, impl.AxX).Pix, impl.Brightest(v, impl.AxY).Pix, impl.Brightest(v, impl.AxZ).Pix,
		impl.Window(im, -5, 5).Pix, impl.Window(im, 0, 255).Pix}
}
