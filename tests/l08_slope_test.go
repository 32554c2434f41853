package tests

import (
	"slices"
	"testing"

	"loop.example/g00050/impl"
)

func TestSlopePlainly(t *testing.T) {
	m := mixer(155)
	for _, size := range sizesOfImages() {
		for _, most := range []int64{1, 9, 1000, impl.MaxPix / 4, impl.MaxPix / 3, impl.MaxPix} {
			im := m.image(size[0], size[1], most)
			wantImage(t, []any{size, most}, impl.Slope(im), plainSlope(im))
		}
	}
	for range 1000 {
		im := m.image(m.pick(1, 5), m.pick(1, 5), m.pick(1, impl.MaxPix/2))
		wantImage(t, im, impl.Slope(im), plainSlope(im))
	}
}

func TestSlopeByHand(t *testing.T) {
	im := impl.Image{W: 3, H: 3, Pix: []int64{
		1, 4, -2,
		6, 6, 0,
		-3, 5, 5}}
	// In the last column the step down alone counts, in the last row that to the right, and at the last pixel none.
	wantImage(t, "three rows", impl.Slope(im), impl.Image{W: 3, H: 3, Pix: []int64{
		8, 8, 2,
		9, 7, 5,
		8, 0, 0}})
	wantImage(t, "a row", impl.Slope(rowImage(3, -4, -4, 9)), rowImage(7, 0, 13, 0))
	wantImage(t, "a column", impl.Slope(upright(rowImage(3, -4, -4, 9))), upright(rowImage(7, 0, 13, 0)))
	for _, tone := range []int64{impl.MaxPix, -impl.MaxPix, 5} {
		wantImage(t, "one pixel", impl.Slope(rowImage(tone)), rowImage(0))
		for _, size := range sizesOfImages() {
			n := int(size[0] * size[1])
			im := impl.Image{W: size[0], H: size[1], Pix: slices.Repeat([]int64{tone}, n)}
			wantImage(t, "like pixels", impl.Slope(im), impl.Image{W: size[0], H: size[1], Pix: make([]int64, n)})
		}
	}
}

func TestSlopeAtTheLimits(t *testing.T) {
	const most = impl.MaxPix
	for _, c := range []struct {
		own, right, below int64
		ok                bool
	}{
		{0, most, 0, true}, {0, 0, most, true}, {0, -most, 0, true}, {0, 0, -most, true},
		{0, most, 1, false}, {0, 1, most, false}, {0, -most, -1, false}, {0, most, -1, false}, {0, most - 1, 1, true}, {0, most - 1, -1, true}, {0, 1 - most, 1, true},
		{-1, most, -1, false}, {-1, -1, most, false}, {1, -most, 1, false}, {1, 1, -most, false}, {-1, most - 1, -1, true}, {1, 1, 1 - most, true},
		{most, -most, most, false}, {-most, most, -most, false}, {most, most, -most, false}, {-most, -most, most, false}, {-most, most, most, false}, {most, -most, -most, false},
		{0, most, most, false}, {0, most / 2, most / 2, true}, {0, most/2 + 1, most / 2, false}, {0, -most / 2, most/2 + 1, false}, {most, 0, most, true}, {-most, -most, 0, true}, {most, 0, most - 1, false},
	} {
		im := impl.Image{W: 2, H: 2, Pix: []int64{c.own, c.right, c.below, c.own}}
		// The last pixel is as the first one: so each other step is at most as great as the two of the first one are together.
		want := impl.Image{W: 2, H: 2, Pix: []int64{max(c.right-c.own, c.own-c.right) + max(c.below-c.own, c.own-c.below), max(c.right-c.own, c.own-c.right), max(c.below-c.own, c.own-c.below), 0}}
		if !c.ok {
			want = impl.Image{}
		}
		wantImage(t, c, impl.Slope(im), want)
		wantImage(t, c, impl.Slope(im), plainSlope(im))
	}
	for _, tone := range []int64{most, -most} { // a pixel at each place of an image of noughts
		for at := range 12 {
			im := changed(impl.Image{W: 4, H: 3, Pix: make([]int64, 12)}, at, tone)
			wantImage(t, []any{tone, at}, impl.Slope(im), plainSlope(im))
		}
	}
	wantImage(t, "exactly", impl.Slope(rowImage(0, most)), rowImage(most, 0))
	wantZeroImage(t, "one past it", impl.Slope(rowImage(-1, most)))
	wantImage(t, "exactly, down", impl.Slope(upright(rowImage(most, 0))), upright(rowImage(most, 0)))
	wantZeroImage(t, "one past it, down", impl.Slope(upright(rowImage(-1, most))))
	wantZeroImage(t, "at the end of a great image", impl.Slope(changed(impl.Image{W: 64, H: 64, Pix: slices.Repeat([]int64{-1}, 4096)}, 4095, most)))
}

func TestSlopeOfWrongImages(t *testing.T) {
	for _, im := range wrongImages() {
		func() {
			defer wantNoPanic(t, im)
			wantZeroImage(t, im, impl.Slope(im))
		}()
	}
}
