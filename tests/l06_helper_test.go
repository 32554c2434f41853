package tests

import (
	"math/big"
	"slices"
	"testing"

	"loop.example/g00050/impl"
)

func primeSides() []int64 { return []int64{2, 3, 5, 7, 11, 13, 17, 19, 23, 29, 31} }

// noPrimeSides are the other sides that an image can have.
func noPrimeSides() []int64 {
	var list []int64
	for n := int64(1); n <= impl.MaxSide; n++ {
		if !slices.Contains(primeSides(), n) {
			list = append(list, n)
		}
	}
	return list
}

// plainLines are the document's sums for a square image of side p.
func plainLines(im impl.Image) []int64 {
	p := im.W
	list := make([]int64, (p+1)*p)
	for t := range p {
		for m := range p {
			for x := range p {
				list[m*p+t] += im.Pix[(m*x+t)%p*p+x]
			}
		}
		for y := range p {
			list[p*p+t] += im.Pix[y*p+t]
		}
	}
	return list
}

// plainMisfit is the document's sum for a tone image and line sums of its side, in numbers without an end.
func plainMisfit(im impl.Image, sums []int64) int64 {
	all := new(big.Int)
	for i, sum := range plainLines(im) {
		d := new(big.Int).Sub(big.NewInt(sums[i]), big.NewInt(sum))
		all.Add(all, d.Mul(d, d))
	}
	return all.Int64()
}

// linesThroughPixel are the numbers of the lines that have it, found by asking every line for all its pixels.
func linesThroughPixel(p, x, y int64) []int64 {
	var list []int64
	for m := range p {
		for t := range p {
			if (m*x+t)%p == y {
				list = append(list, m*p+t)
			}
		}
	}
	return append(list, p*p+x)
}

// plainNearest is x / y and a half, rounded down; Div rounds down where y is above 0.
func plainNearest(x, y int64) int64 {
	above := big.NewInt(2*x + y)
	return above.Div(above, big.NewInt(2*y)).Int64()
}

// plainRound goes through all pixels once in the document's order, with all lines reckoned anew at each.
func plainRound(im impl.Image, sums []int64) impl.Image {
	p := im.W
	now := impl.Image{W: p, H: p, Pix: slices.Clone(im.Pix)}
	for y := range p {
		for x := range p {
			lines, s := plainLines(now), int64(0)
			for _, number := range linesThroughPixel(p, x, y) {
				s += sums[number] - lines[number]
			}
			tone := now.Pix[y*p+x] + plainNearest(s, p+1)
			now.Pix[y*p+x] = max(-impl.MaxTone, min(impl.MaxTone, tone))
		}
	}
	return now
}

// filledImage is a square image whose pixels are told one by one.
func filledImage(p int64, pixel func(x, y int64) int64) impl.Image {
	im := impl.Image{W: p, H: p}
	for y := range p {
		for x := range p {
			im.Pix = append(im.Pix, pixel(x, y))
		}
	}
	return im
}

// tones are tone images of one side: at both ends, all alike, and drawn ones.
func (m *mixer) tones(p int64) []impl.Image {
	list := []impl.Image{m.image(p, p, impl.MaxTone), m.image(p, p, impl.MaxTone), m.image(p, p, 3)}
	for _, tone := range []int64{-impl.MaxTone, -1, 0, 1, impl.MaxTone} {
		list = append(list, filledImage(p, func(x, y int64) int64 { return tone }))
	}
	return append(list,
		filledImage(p, func(x, y int64) int64 { return []int64{-impl.MaxTone, impl.MaxTone}[(x+y)%2] }),
		filledImage(p, func(x, y int64) int64 { return []int64{-impl.MaxTone, impl.MaxTone}[m.pick(0, 1)] }),
		filledImage(p, func(x, y int64) int64 { return y*p + x }))
}

// lonePixels are images with one pixel that is not 0: of a small side at each place, else at some.
func lonePixels(p, tone int64) []impl.Image {
	var list []impl.Image
	for place := int64(0); place < p*p; place += max(1, p-8) {
		im := impl.Image{W: p, H: p, Pix: make([]int64, p*p)}
		im.Pix[place] = tone
		list = append(list, im)
	}
	return list
}

// wantNoTones asks all functions that want a tone image.
func wantNoTones(t *testing.T, what any, im impl.Image, sums []int64) {
	t.Helper()
	defer wantNoPanic(t, what)
	if got := impl.Lines(im); len(got) != 0 {
		t.Errorf("%v: lines %s", what, brief(got))
	}
	wantNoFit(t, what, im, sums)
}

// wantNoFit asks what tells an image and sums together.
func wantNoFit(t *testing.T, what any, im impl.Image, sums []int64) {
	t.Helper()
	defer wantNoPanic(t, what)
	if got := impl.Misfit(im, sums); got != -1 {
		t.Errorf("%v: misfit %d", what, got)
	}
	for _, rounds := range []int64{0, 1, impl.MaxRounds} {
		wantNoDescent(t, what, im, sums, rounds)
	}
}

func wantNoDescent(t *testing.T, what any, im impl.Image, sums []int64, rounds int64) {
	t.Helper()
	defer wantNoPanic(t, what)
	if out, told := impl.Descend(im, sums, rounds); !isZeroImage(out) || len(told) != 0 {
		t.Errorf("%v: descends in %d rounds to %v, %v", what, rounds, out, told)
	}
}

func wantNoImage(t *testing.T, what any, sums []int64) {
	t.Helper()
	defer wantNoPanic(t, what)
	if im, ok := impl.FromLines(sums); ok || !isZeroImage(im) {
		t.Errorf("%v: %d sums are lines of %v, %v", what, len(sums), im, ok)
	}
}

func wantImageOf(t *testing.T, what any, sums []int64, want impl.Image) {
	t.Helper()
	got, ok := impl.FromLines(sums)
	if !ok {
		t.Errorf("%v: no image", what)
	}
	wantImage(t, what, got, want)
}
