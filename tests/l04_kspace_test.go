package tests

import (
	"slices"
	"testing"

	"loop.example/g00050/impl"
)

// fullKSpace is a right KSpace, sampled once everywhere.
func fullKSpace(n int64) impl.KSpace {
	k := impl.KSpace{N: n}
	for i := range n * n {
		k.Have = append(k.Have, 1)
		k.Pix = append(k.Pix, (i*i+7)%prime)
	}
	return k
}

func wantKSpaceOk(t *testing.T, what any, k impl.KSpace, want bool) {
	t.Helper()
	defer wantNoPanic(t, what)
	if impl.KSpaceOk(k) != want {
		t.Errorf("%v: KSpaceOk is %v", what, !want)
	}
	im, missing := impl.Rebuild(k)
	if !want && (!isZeroImage(im) || missing != 0) {
		t.Errorf("%v: Rebuild tells %d x %d with %d pixels, %d", what, im.W, im.H, len(im.Pix), missing)
	}
	if want && (im.W != k.N || im.H != k.N || int64(len(im.Pix)) != k.N*k.N) {
		t.Errorf("%v: Rebuild tells %d x %d with %d pixels, %d", what, im.W, im.H, len(im.Pix), missing)
	}
}

func TestKSpaceOkSides(t *testing.T) {
	wantKSpaceOk(t, "zero", impl.KSpace{}, false)
	for _, n := range sides() {
		wantKSpaceOk(t, n, fullKSpace(n), true)
		wantKSpaceOk(t, n, impl.KSpace{N: n, Have: make([]int64, n*n), Pix: make([]int64, n*n)}, true)
	}
	for _, n := range noSides() {
		many := int64(4)
		if n >= -130 && n <= 130 {
			many = n * n
		}
		wantKSpaceOk(t, n, impl.KSpace{N: n, Have: make([]int64, many), Pix: make([]int64, many)}, false)
		wantKSpaceOk(t, n, impl.KSpace{N: n}, false) // squares that wrap round to 0
	}
}

func TestKSpaceOkLengths(t *testing.T) {
	for _, n := range sides() {
		right := fullKSpace(n)
		for _, by := range []int64{-n * n, -1, 1, n} {
			have := slices.Repeat([]int64{1}, int(n*n+by))
			pix := make([]int64, n*n+by)
			wantKSpaceOk(t, []any{n, "have", by}, impl.KSpace{N: n, Have: have, Pix: right.Pix}, false)
			wantKSpaceOk(t, []any{n, "pix", by}, impl.KSpace{N: n, Have: right.Have, Pix: pix}, false)
			wantKSpaceOk(t, []any{n, "both", by}, impl.KSpace{N: n, Have: have, Pix: pix}, false)
		}
	}
}

func TestKSpaceOkNumbers(t *testing.T) {
	for _, n := range []int64{1, 2, 8, 64} {
		for _, at := range []int64{0, n * n / 2, n*n - 1} {
			for have, right := range map[int64]bool{leastInt: false, -2: false, -1: false, 0: true, 1: true, 2: true, 8191: true, 8192: true, 8193: false, 1 << 32: false, mostInt: false} {
				k := fullKSpace(n)
				k.Have[at], k.Pix[at] = have, 0
				wantKSpaceOk(t, []any{n, at, "have", have}, k, right)
			}
			for pix, right := range map[int64]bool{leastInt: false, -12289: false, -1: false, 0: true, 1: true, 12288: true, 12289: false, 1 << 32: false, mostInt: false} {
				k := fullKSpace(n)
				k.Pix[at] = pix
				wantKSpaceOk(t, []any{n, at, "pix", pix}, k, right)
				k.Have[at] = 0
				wantKSpaceOk(t, []any{n, at, "pix where have is 0", pix}, k, pix == 0)
			}
		}
	}
}

// Promise 6, its second part; promise 5 for this chapter.
func TestRebuildOfRaster(t *testing.T) {
	m := mixer(60)
	for _, n := range sides() {
		path := impl.Path(impl.Raster(n))
		for i, im := range m.squares(n) {
			k := impl.Acquire(im, path)
			if !impl.KSpaceOk(k) || k.N != n || !slices.Equal(k.Have, slices.Repeat([]int64{1}, int(n*n))) || !slices.Equal(k.Pix, impl.Spectrum(im).Pix) {
				t.Fatal("the raster samples each place once", n, i)
			}
			got, missing := impl.Rebuild(k)
			if missing != 0 {
				t.Error(n, i, missing)
			}
			wantImage(t, []any{n, i}, got, residuesOf(im))
		}
	}
}

// Promise 6: paths that cover the square in other ways.
func TestRebuildOfCoveringPaths(t *testing.T) {
	m := mixer(61)
	for _, n := range sides() {
		for _, from := range []int64{-1, -n - 1, 5 * n, leastInt, mostInt - 64} {
			path := slices.Concat(squarePath(n), m.wildPath(int(m.pick(0, 40))))
			for i := range path[:n*n] {
				path[i].KX += from
				path[i].KY -= from / 2
			}
			slices.Reverse(path)
			im := m.image(n, n, impl.MaxPix)
			if !impl.Covers(path, n) {
				t.Fatal(n, from)
			}
			got, missing := impl.Rebuild(impl.Acquire(im, path))
			if missing != 0 {
				t.Error(n, from, missing)
			}
			wantImage(t, []any{n, from}, got, residuesOf(im))
		}
	}
}

// Promise 6, its last part: at any path as many places are missing as it leaves out.
func TestRebuildOfAnyPath(t *testing.T) {
	m := mixer(62)
	for _, n := range []int64{1, 2, 4, 8, 16} {
		for range 12 {
			path := m.wildPath(int(m.pick(0, 2*n*n)))
			im := m.image(n, n, impl.MaxPix)
			want := sampledSpectrum(im, path)
			k := impl.Acquire(im, path)
			wantKSpace(t, n, k, want)
			if !impl.KSpaceOk(k) {
				t.Fatal("an answer of Acquire is not right", k)
			}
			got, missing := impl.Rebuild(k)
			if missing != leftOut(path, n) {
				t.Errorf("%d: %d places are missing, want %d", n, missing, leftOut(path, n))
			}
			wantImage(t, n, got, plainSpectrum(impl.Image{W: n, H: n, Pix: want.Pix}, true))
		}
	}
	for _, n := range []int64{32, 64} {
		im, path := m.image(n, n, impl.MaxPix), impl.Path(impl.Raster(n))
		for _, cut := range []int64{0, 1, n, n*n/2 + 3, n*n - 1} {
			_, missing := impl.Rebuild(impl.Acquire(im, path[:n*n-cut]))
			if missing != cut {
				t.Errorf("%d: %d places are missing, want %d", n, missing, cut)
			}
		}
	}
}

func TestAcquirePlaces(t *testing.T) {
	m := mixer(63)
	for _, n := range sides() {
		im := m.squares(n)[4]
		whole := impl.Spectrum(im)
		for _, place := range [][2]int64{{0, 0}, {-1, 0}, {0, -1}, {n, n - 1}, {n - 1, n}, {-n, -n - 1}, {leastInt, mostInt}, {mostInt, leastInt}, {leastInt + 1, leastInt}, {mostInt - 1, mostInt}} {
			k := impl.Acquire(im, []impl.Sample{{Tick: leastInt, KX: place[0], KY: place[1], SX: mostInt, SY: 3}})
			want := impl.KSpace{N: n, Have: make([]int64, n*n), Pix: make([]int64, n*n)}
			at := bigModulo(place[1], n)*n + bigModulo(place[0], n)
			want.Have[at], want.Pix[at] = 1, whole.Pix[at]
			wantKSpace(t, []any{n, place}, k, want)
		}
	}
}

func TestAcquireSeveralTimes(t *testing.T) {
	im := impl.Image{W: 2, H: 2, Pix: []int64{1, 2, 3, -4}}
	path := []impl.Sample{{KX: 1, KY: 1}, {KX: -1, KY: 3}, {KX: 3, KY: -1}, {KX: 2, KY: 1}, {KX: 1, KY: 1}}
	wantKSpace(t, "several times", impl.Acquire(im, path), impl.KSpace{N: 2, Have: []int64{0, 0, 1, 4}, Pix: []int64{0, 0, 4, 12281}})
}

func TestAcquireLongPaths(t *testing.T) {
	m := mixer(64)
	for _, n := range []int64{1, 4, 64} {
		im := m.image(n, n, impl.MaxPix)
		k := impl.Acquire(im, make([]impl.Sample, 8192))
		want := impl.KSpace{N: n, Have: make([]int64, n*n), Pix: make([]int64, n*n)}
		want.Have[0], want.Pix[0] = 8192, impl.Spectrum(im).Pix[0]
		wantKSpace(t, "8192 samples", k, want)
		if !impl.KSpaceOk(k) {
			t.Error("8192 samples at one place")
		}
		for _, many := range []int{8193, 16384, 1 << 18} {
			if k := impl.Acquire(im, make([]impl.Sample, many)); !isZeroKSpace(k) {
				t.Error(n, many, k.N)
			}
		}
	}
}

func TestAcquireNothing(t *testing.T) {
	m := mixer(65)
	for _, n := range sides() {
		im := m.image(n, n, impl.MaxPix)
		none := impl.KSpace{N: n, Have: make([]int64, n*n), Pix: make([]int64, n*n)}
		wantKSpace(t, "nil", impl.Acquire(im, nil), none)
		wantKSpace(t, "empty", impl.Acquire(im, []impl.Sample{}), none)
		got, missing := impl.Rebuild(none)
		if missing != n*n {
			t.Error(n, missing)
		}
		wantImage(t, "never sampled", got, impl.Image{W: n, H: n, Pix: make([]int64, n*n)})
	}
}

func TestAcquireRefusesImages(t *testing.T) {
	for _, im := range append(wrongImages(), noSquares()...) {
		for _, path := range [][]impl.Sample{nil, {{KX: 1}}, make([]impl.Sample, 8193)} {
			func() {
				defer wantNoPanic(t, im)
				if k := impl.Acquire(im, path); !isZeroKSpace(k) {
					t.Error(im.W, im.H, len(path), k.N)
				}
			}()
		}
	}
}

// What was sampled 0 times counts as missing though its value is 0 anyway; a value of 0 that was sampled does not.
func TestRebuildCounts(t *testing.T) {
	k := impl.KSpace{N: 2, Have: []int64{3, 0, 8192, 0}, Pix: []int64{0, 0, 4, 0}}
	got, missing := impl.Rebuild(k)
	if missing != 2 {
		t.Error(missing)
	}
	wantImage(t, "counts", got, impl.Image{W: 2, H: 2, Pix: []int64{1, 1, 12288, 12288}})
}

func TestRebuildPlainly(t *testing.T) {
	m := mixer(66)
	for _, n := range sides() {
		k := impl.KSpace{N: n}
		missing := int64(0)
		for range n * n {
			have := max(m.pick(-3, 9), 0)
			k.Have = append(k.Have, have)
			k.Pix = append(k.Pix, min(have, 1)*m.pick(0, 12288))
			missing += 1 - min(have, 1)
		}
		got, gotMissing := impl.Rebuild(k)
		if gotMissing != missing {
			t.Errorf("%d: %d missing, want %d", n, gotMissing, missing)
		}
		wantImage(t, n, got, plainSpectrum(impl.Image{W: n, H: n, Pix: k.Pix}, true))
	}
}

func TestScannerLeavesArguments(t *testing.T) {
	m := mixer(67)
	for _, n := range []int64{1, 4, 16} {
		im := m.image(n, n, impl.MaxPix)
		wasPix, wasPath := slices.Clone(im.Pix), m.wildPath(int(2*n))
		mark := impl.Sample{Tick: -7, KX: 1, KY: 1}
		im.Pix = roomy(wasPix, 5)
		path := roomy(wasPath, mark)
		first, second := impl.Acquire(im, path), impl.Acquire(im, path)
		if !stays(im.Pix, wasPix, 5) || !stays(path, wasPath, mark) {
			t.Error("Acquire changes its arguments", n)
		}
		have, pix := slices.Clone(second.Have), slices.Clone(second.Pix)
		spoil(first.Have)
		wantLists(t, "the lists of one answer", first.Pix, pix)
		spoil(first.Pix)
		spoil(im.Pix)
		wantLists(t, "Have of two answers", second.Have, have)
		wantLists(t, "Pix of two answers", second.Pix, pix)

		k := impl.KSpace{N: n, Have: roomy(have, 6), Pix: roomy(pix, 7)}
		impl.KSpaceOk(k)
		one, missing := impl.Rebuild(k)
		two, _ := impl.Rebuild(k)
		if !stays(k.Have, have, 6) || !stays(k.Pix, pix, 7) {
			t.Error("Rebuild changes its argument", n)
		}
		want := slices.Clone(two.Pix)
		spoil(one.Pix)
		spoil(k.Pix)
		spoil(k.Have)
		wantLists(t, "two answers of Rebuild", two.Pix, want)
		if again, count := impl.Rebuild(second); count != missing || !slices.Equal(again.Pix, want) {
			t.Error("something was kept", n)
		}
	}
}

func TestRebuildOneListTwice(t *testing.T) {
	list := []int64{1, 0, 5, 9}
	k := impl.KSpace{N: 2, Have: list, Pix: list}
	if !impl.KSpaceOk(k) {
		t.Fatal("not right")
	}
	got, missing := impl.Rebuild(k)
	wantLists(t, "one list as both", list, []int64{1, 0, 5, 9})
	if missing != 1 {
		t.Error(missing)
	}
	wantImage(t, "one list as both", got, plainSpectrum(impl.Image{W: 2, H: 2, Pix: list}, true))
}
