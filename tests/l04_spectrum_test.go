package tests

import (
	"runtime"
	"slices"
	"sync"
	"testing"
	"time"

	"loop.example/g00050/impl"
)

func TestPrimeNumbers(t *testing.T) {
	if impl.Prime != 12289 || impl.MaxPower != 1099511627776 || impl.MaxHalf != 1000000 {
		t.Error(impl.Prime, impl.MaxPower, impl.MaxHalf)
	}
}

func TestPower(t *testing.T) {
	bases := []int64{leastInt, leastInt + 1, -impl.Prime - 1, -impl.Prime, -impl.Prime + 1, -2, -1, 0, 1, 2, 11, 12287, 12288, 12289, 12290, 2 * 12289, 1000 * 12289, 1 << 32, mostInt - 1, mostInt, mostInt - mostInt%12289}
	powers := []int64{0, 1, 2, 3, 4, 5, 7, 8, 12287, 12288, 12289, 1 << 20, 1<<31 - 1, 1 << 31, 1<<39 + 1, impl.MaxPower - 1, impl.MaxPower}
	m := mixer(50)
	for range 50 {
		bases = append(bases, int64(m.next()))
		powers = append(powers, m.pick(0, impl.MaxPower))
	}
	for _, b := range bases {
		for _, e := range powers {
			if got := impl.Power(b, e); got != bigPower(b, e) {
				t.Errorf("Power(%d, %d) is %d, want %d", b, e, got, bigPower(b, e))
			}
		}
		for _, e := range []int64{leastInt, leastInt + 1, -impl.MaxPower, -2, -1, impl.MaxPower + 1, impl.MaxPower + 2, 1 << 62, mostInt - 1, mostInt} {
			if got := impl.Power(b, e); got != 0 {
				t.Errorf("Power(%d, %d) is %d", b, e, got)
			}
		}
	}
}

func TestPowerWrittenOut(t *testing.T) {
	for _, c := range [][3]int64{
		{0, 0, 1}, {12289, 0, 1}, {-12289, 0, 1}, {leastInt, 0, 1}, {mostInt, 0, 1}, {0, 1, 0}, {12289, 5, 0}, {-12289, impl.MaxPower, 0},
		{1, impl.MaxPower, 1}, {-1, impl.MaxPower, 1}, {-1, impl.MaxPower - 1, 12288}, {2, 13, 8192}, {2, 14, 4095}, {-3, 3, 12262},
		{11, 12288, 1}, {11, 6144, 12288}, {0, -1, 0}, {1, -1, 0}, {1, impl.MaxPower + 1, 0},
	} {
		if got := impl.Power(c[0], c[1]); got != c[2] {
			t.Errorf("Power(%d, %d) is %d, want %d", c[0], c[1], got, c[2])
		}
	}
}

func TestRootOf(t *testing.T) {
	for _, n := range sides() {
		r := impl.RootOf(n)
		if r != bigPower(11, 12288/n) || r != impl.Power(11, 12288/n) {
			t.Errorf("%d: %d", n, r)
		}
		power := int64(1)
		for k := int64(1); k <= n; k++ {
			power = power * r % prime
			if (power == 1) != (k == n) {
				t.Errorf("%d: the power %d of %d is %d", n, k, r, power)
			}
		}
	}
	if impl.RootOf(1) != 1 || impl.RootOf(2) != 12288 {
		t.Error(impl.RootOf(1), impl.RootOf(2))
	}
	for _, n := range noSides() {
		if r := impl.RootOf(n); r != 0 {
			t.Errorf("%d: %d", n, r)
		}
	}
}

func TestResiduesOfPixels(t *testing.T) {
	m := mixer(51)
	for _, size := range [][2]int64{{1, 1}, {1, 64}, {64, 1}, {64, 64}, {3, 5}, {5, 3}, {63, 2}} {
		im := m.image(size[0], size[1], impl.MaxPix)
		wantImage(t, size, impl.Residues(im), residuesOf(im))
	}
	im := impl.Image{W: 4, H: 3, Pix: []int64{0, -1, 12288, 12289, 12290, -12288, -12289, -12290, impl.MaxPix, -impl.MaxPix, 1, 24578}}
	want := impl.Image{W: 4, H: 3, Pix: []int64{0, 12288, 12288, 0, 1, 1, 0, 12288, 1000000000 % 12289, 12289 - 1000000000%12289, 1, 0}}
	wantImage(t, "edges", impl.Residues(im), want)
}

// Each pixel by the sum that the chapter names.
func TestSpectrumPlainly(t *testing.T) {
	m := mixer(52)
	for _, n := range sides() {
		list := m.squares(n)
		if n == 64 {
			list = list[:2]
		}
		for i, im := range list {
			wantImage(t, []any{"spectrum", n, i}, impl.Spectrum(im), plainSpectrum(im, false))
			wantImage(t, []any{"back", n, i}, impl.BackSpectrum(im), plainSpectrum(im, true))
		}
	}
}

// One pixel alone, by its closed form: a swap of columns and rows, or of a root and its inverse, shows.
func TestSpectrumOfOnePixel(t *testing.T) {
	for _, n := range sides() {
		r := bigPower(11, 12288/n)
		for _, at := range [][2]int64{{0, 0}, {n - 1, 0}, {0, n - 1}, {1 % n, n / 2}, {n - 1, n / 2}} {
			im := impl.Image{W: n, H: n, Pix: make([]int64, n*n)}
			im.Pix[at[1]*n+at[0]] = -3
			there, back := impl.Spectrum(im), impl.BackSpectrum(im)
			if int64(len(there.Pix)) != n*n || int64(len(back.Pix)) != n*n {
				t.Fatal(n, len(there.Pix), len(back.Pix))
			}
			for i := range n * n {
				power := bigPower(r, i%n*at[0]+i/n*at[1])
				if there.Pix[i] != bigModulo(-3*power, prime) {
					t.Fatalf("%d, %v: pixel %d of the spectrum is %d", n, at, i, there.Pix[i])
				}
				if back.Pix[i]*power%prime*(n*n)%prime != 12286 {
					t.Fatalf("%d, %v: pixel %d of the way back is %d", n, at, i, back.Pix[i])
				}
			}
		}
	}
}

// Promise 6, its first part.
func TestBackSpectrumOfSpectrum(t *testing.T) {
	m := mixer(53)
	for _, n := range sides() {
		for i, im := range m.squares(n) {
			want := residuesOf(im)
			wantImage(t, []any{n, i}, impl.BackSpectrum(impl.Spectrum(im)), want)
			wantImage(t, []any{n, i}, impl.Spectrum(impl.BackSpectrum(im)), want)
			wantImage(t, []any{n, i}, impl.Residues(im), want)
		}
	}
}

func TestSpectrumRefuses(t *testing.T) {
	for _, im := range wrongImages() {
		func() {
			defer wantNoPanic(t, im)
			if !isZeroImage(impl.Residues(im)) || !isZeroImage(impl.Spectrum(im)) || !isZeroImage(impl.BackSpectrum(im)) {
				t.Error("not right", im)
			}
		}()
	}
	for _, im := range noSquares() {
		if !isZeroImage(impl.Spectrum(im)) || !isZeroImage(impl.BackSpectrum(im)) {
			t.Error("no square of a side", im.W, im.H)
		}
		wantImage(t, "no square of a side", impl.Residues(im), residuesOf(im))
	}
	for _, n := range sides() {
		for _, wrong := range []int64{impl.MaxPix + 1, -impl.MaxPix - 1, leastInt, mostInt} {
			for _, at := range []int64{0, n * n / 2, n*n - 1} {
				im := impl.Image{W: n, H: n, Pix: make([]int64, n*n)}
				im.Pix[at] = wrong
				if !isZeroImage(impl.Residues(im)) || !isZeroImage(impl.Spectrum(im)) || !isZeroImage(impl.BackSpectrum(im)) {
					t.Errorf("%d: pixel %d is %d", n, at, wrong)
				}
			}
		}
		for _, many := range []int64{0, n*n - 1, n*n + 1} {
			im := impl.Image{W: n, H: n, Pix: make([]int64, many)}
			if !isZeroImage(impl.Residues(im)) || !isZeroImage(impl.Spectrum(im)) || !isZeroImage(impl.BackSpectrum(im)) {
				t.Errorf("%d: %d pixels", n, many)
			}
		}
	}
}

func TestSpectrumLeavesArguments(t *testing.T) {
	m := mixer(54)
	for _, n := range []int64{1, 8, 64} {
		im := m.image(n, n, impl.MaxPix)
		was := slices.Clone(im.Pix)
		im.Pix = roomy(was, 5)
		for _, call := range []func(impl.Image) impl.Image{impl.Residues, impl.Spectrum, impl.BackSpectrum} {
			first, second := call(im), call(im)
			want := slices.Clone(second.Pix)
			spoil(first.Pix)
			if !stays(im.Pix, was, 5) {
				t.Error("the pixels change", n)
			}
			if !slices.Equal(second.Pix, want) || !slices.Equal(call(im).Pix, want) {
				t.Error("two answers share memory", n)
			}
		}
	}
	small := impl.Image{W: 2, H: 2, Pix: []int64{1, 2, 3, 4}}
	residues := impl.Residues(small)
	spoil(small.Pix)
	if !slices.Equal(residues.Pix, []int64{1, 2, 3, 4}) {
		t.Error("Residues of residues is its argument's memory", residues)
	}
}

// All goroutines of a spectrum have ended, and calls side by side don't see each other.
func TestSpectraSideBySide(t *testing.T) {
	m := mixer(55)
	before := runtime.NumGoroutine()
	var images, want, got [8]impl.Image
	for i := range images {
		images[i] = m.image(32, 32, impl.MaxPix)
		want[i] = impl.Spectrum(images[i])
	}
	var workers sync.WaitGroup
	for i := range images {
		workers.Add(1)
		go func() {
			defer workers.Done()
			for range 5 {
				got[i] = impl.Spectrum(images[i])
			}
		}()
	}
	workers.Wait()
	for i := range images {
		wantImage(t, i, got[i], want[i])
	}
	for range 200 {
		if runtime.NumGoroutine() <= before {
			return
		}
		time.Sleep(10 * time.Millisecond)
	}
	t.Errorf("%d goroutines, %d before", runtime.NumGoroutine(), before)
}
