package tests

import (
	"fmt"
	"math/big"
	"slices"
	"testing"

	"loop.example/g00050/impl"
)

const prime = 12289

func sides() []int64 { return []int64{1, 2, 4, 8, 16, 32, 64} }

// noSides are numbers that are no side, some of them with bits or products that look like one.
func noSides() []int64 {
	list := []int64{leastInt, leastInt + 1, -1 << 32, 1 << 32, 1<<32 + 1, 1 << 62, mostInt - 1, mostInt, 128, 256, 4096, 12288, 12289}
	for n := int64(-130); n <= 130; n++ {
		if !slices.Contains(sides(), n) {
			list = append(list, n)
		}
	}
	return list
}

// bigPower is b to the power e modulo prime, in numbers without an end.
func bigPower(b, e int64) int64 {
	base := new(big.Int).Mod(big.NewInt(b), big.NewInt(prime))
	return new(big.Int).Exp(base, big.NewInt(e), big.NewInt(prime)).Int64()
}

// bigInverse is the residue that times n is 1; n is no multiple of prime.
func bigInverse(n int64) int64 {
	return new(big.Int).ModInverse(big.NewInt(bigModulo(n, prime)), big.NewInt(prime)).Int64()
}

func residuesOf(im impl.Image) impl.Image {
	out := impl.Image{W: im.W, H: im.H}
	for _, pixel := range im.Pix {
		out.Pix = append(out.Pix, bigModulo(pixel, prime))
	}
	return out
}

// plainPowers are the powers 0 .. n² of the document's root for n.
func plainPowers(n int64) []int64 {
	root := bigPower(11, 12288/n)
	list := []int64{1}
	for range n * n {
		list = append(list, list[len(list)-1]*root%prime)
	}
	return list
}

// plainSpectrum is the document's double sum for each pixel, of a right square image with a side.
func plainSpectrum(im impl.Image, back bool) impl.Image {
	n := im.W
	powers, given, factor := plainPowers(n), residuesOf(im), int64(1)
	if back {
		factor = bigInverse(n * n)
	}
	out := impl.Image{W: n, H: n, Pix: make([]int64, n*n)}
	for v := range n {
		for u := range n {
			sum := int64(0)
			for y := range n {
				for x := range n {
					k := (u*x + v*y) % n
					if back {
						k = n*n - k
					}
					sum += given.Pix[y*n+x] * powers[k]
				}
			}
			out.Pix[v*n+u] = sum % prime * factor % prime
		}
	}
	return out
}

// squares are right square images of one side: thrown ones, and ones with pixels at both ends of their range.
func (m *mixer) squares(n int64) []impl.Image {
	filled := func(pixel func(i int64) int64) impl.Image {
		im := impl.Image{W: n, H: n}
		for i := range n * n {
			im.Pix = append(im.Pix, pixel(i))
		}
		return im
	}
	return []impl.Image{
		m.image(n, n, impl.MaxPix),
		m.image(n, n, 9),
		filled(func(i int64) int64 { return -impl.MaxPix }),
		filled(func(i int64) int64 { return impl.MaxPix }),
		filled(func(i int64) int64 { return []int64{-impl.MaxPix, impl.MaxPix, -1, 12288, 12289, -12289}[(i+i/n)%6] }),
		filled(func(i int64) int64 { return -i - 1 }),
	}
}

// noSquares are right images of which there is no spectrum.
func noSquares() []impl.Image {
	var list []impl.Image
	for _, size := range [][2]int64{{1, 2}, {2, 1}, {4, 1}, {1, 4}, {8, 2}, {2, 8}, {64, 32}, {32, 64}, {64, 1}, {1, 64}, {64, 63}, {63, 64},
		{3, 3}, {5, 5}, {6, 6}, {7, 7}, {12, 12}, {31, 31}, {33, 33}, {48, 48}, {63, 63}} {
		list = append(list, impl.Image{W: size[0], H: size[1], Pix: slices.Repeat([]int64{1}, int(size[0]*size[1]))})
	}
	return list
}

func wantImage(t *testing.T, what any, got, want impl.Image) {
	t.Helper()
	if !sameImage(got, want) {
		t.Errorf("%v: %d x %d %s, want %d x %d %s", what, got.W, got.H, brief(got.Pix), want.W, want.H, brief(want.Pix))
	}
}

// brief is the beginning of a list, told.
func brief(list []int64) string {
	if len(list) > 20 {
		return fmt.Sprint(list[:20], " and ", len(list)-20, " more")
	}
	return fmt.Sprint(list)
}

func wantLists(t *testing.T, what any, got, want []int64) {
	t.Helper()
	if !slices.Equal(got, want) {
		t.Errorf("%v: %s, want %s", what, brief(got), brief(want))
	}
}

func isZeroKSpace(k impl.KSpace) bool {
	return k.N == 0 && len(k.Have) == 0 && len(k.Pix) == 0
}

// wildPath has so many samples at places from all over.
func (m *mixer) wildPath(n int) []impl.Sample {
	path := make([]impl.Sample, n)
	for i := range path {
		path[i] = impl.Sample{Tick: int64(m.next()), KX: int64(m.next()), KY: int64(m.next()), SX: m.pick(-1, 1), SY: m.pick(-1, 1)}
	}
	return path
}

// sampledSpectrum is the document's KSpace of an image and a path that are right.
func sampledSpectrum(im impl.Image, path []impl.Sample) impl.KSpace {
	n := im.W
	whole := plainSpectrum(im, false)
	k := impl.KSpace{N: n, Have: make([]int64, n*n), Pix: make([]int64, n*n)}
	for _, s := range path {
		place := bigModulo(s.KY, n)*n + bigModulo(s.KX, n)
		k.Have[place]++
		k.Pix[place] = whole.Pix[place]
	}
	return k
}

// leftOut is how many places of a square of n the path has not.
func leftOut(path []impl.Sample, n int64) int64 {
	seen := map[[2]int64]bool{}
	for _, s := range path {
		seen[[2]int64{bigModulo(s.KX, n), bigModulo(s.KY, n)}] = true
	}
	return n*n - int64(len(seen))
}

func wantKSpace(t *testing.T, what any, got, want impl.KSpace) {
	t.Helper()
	if got.N != want.N || !slices.Equal(got.Have, want.Have) || !slices.Equal(got.Pix, want.Pix) {
		t.Errorf("%v: %d %s %s, want %d %s %s", what, got.N, brief(got.Have), brief(got.Pix), want.N, brief(want.Have), brief(want.Pix))
	}
}
