package tests

import (
	"slices"
	"testing"

	"loop.example/g00050/impl"
)

func TestMedianPlainly(t *testing.T) {
	m := mixer(153)
	for _, size := range sizesOfImages() {
		for _, most := range []int64{1, 4, 1000, impl.MaxPix} {
			im := m.image(size[0], size[1], most)
			for r := range int64(impl.MaxReach + 1) {
				if size[0]*size[1] > 1000 && (r == 2 || most == 4) {
					continue
				}
				wantImage(t, []any{size, most, r}, impl.Median(im, r), plainMedian(im, r))
			}
		}
	}
	for range 300 {
		im := m.image(m.pick(1, 12), m.pick(1, 12), m.pick(1, 60))
		r := m.pick(0, 3)
		wantImage(t, []any{im, r}, impl.Median(im, r), plainMedian(im, r))
	}
}

func TestMedianByHand(t *testing.T) {
	im := impl.Image{W: 3, H: 3, Pix: []int64{
		9, -2, 7,
		4, 5, -6,
		3, 8, 1}}
	// Four pixels at a corner and six at an edge: of an even count the lesser one of the two in the middle.
	wantImage(t, "reach 1", impl.Median(im, 1), impl.Image{W: 3, H: 3, Pix: []int64{
		4, 4, -2,
		4, 4, 1,
		4, 3, 1}})
	wantImage(t, "reach 0", impl.Median(im, 0), im)
	for r := int64(2); r <= 3; r++ {
		wantImage(t, []any{"all pixels", r}, impl.Median(im, r), impl.Image{W: 3, H: 3, Pix: slices.Repeat([]int64{4}, 9)})
	}
	row := rowImage(-1, -5, 3, -7, 2, 0)
	wantImage(t, "a row", impl.Median(row, 1), rowImage(-5, -1, -5, 2, 0, 0))
	wantImage(t, "a column", impl.Median(upright(row), 1), upright(rowImage(-5, -1, -5, 2, 0, 0)))
	wantImage(t, "a row, reach 3", impl.Median(row, 3), rowImage(-5, -1, -1, -1, 0, 0))
	wantImage(t, "two pixels", impl.Median(rowImage(7, -7), 3), rowImage(-7, -7))
	wantImage(t, "one pixel", impl.Median(rowImage(-7), 3), rowImage(-7))
	ends := rowImage(impl.MaxPix, -impl.MaxPix, impl.MaxPix)
	wantImage(t, "both limits", impl.Median(ends, 1), rowImage(-impl.MaxPix, impl.MaxPix, -impl.MaxPix))
}

// A lone pixel is seen by nobody where others are more; like pixels stay.
func TestMedianOfLikePixels(t *testing.T) {
	for _, tone := range []int64{-impl.MaxPix, -1, 0, 1, impl.MaxPix} {
		for _, size := range sizesOfImages() {
			n := int(size[0] * size[1])
			im := impl.Image{W: size[0], H: size[1], Pix: slices.Repeat([]int64{tone}, n)}
			for r := range int64(4) {
				wantImage(t, []any{tone, size, r}, impl.Median(im, r), im)
				if size[0] >= 3 && size[1] >= 3 && r > 0 {
					for _, other := range []int64{-impl.MaxPix, impl.MaxPix} {
						wantImage(t, []any{"a lone one", tone, other, size, r}, impl.Median(changed(im, n/2, other), r), im)
					}
				}
			}
		}
	}
}

// One pixel is greater than all others: who has more than half of such pixels around tells how far a reach goes.
func TestMedianReach(t *testing.T) {
	for r := int64(0); r <= 3; r++ {
		for edge := int64(1); edge < 12; edge++ {
			left := drawnImage(12, 9, func(x, y int64) int64 { return oneIf(x < edge) })
			wantImage(t, []any{"columns", r, edge}, impl.Median(left, r), plainMedian(left, r))
			wantImage(t, []any{"rows", r, edge}, impl.Median(upright(left), r), upright(plainMedian(left, r)))
		}
	}
}

func TestMedianAtTheLimits(t *testing.T) {
	m := mixer(154)
	im := m.image(9, 8, 100)
	for _, r := range append(edges(0, impl.MaxReach), 2, 3, 4, 5, -2, -3, -4, 64, 1<<32, 1<<32+1, 1<<62, leastInt+1, mostInt-1) {
		if r >= 0 && r <= 3 {
			wantImage(t, r, impl.Median(im, r), plainMedian(im, r))
		} else {
			wantNoMedian(t, im, r)
		}
		for _, wrong := range wrongImages() {
			wantNoMedian(t, wrong, r)
		}
	}
}

func wantNoMedian(t *testing.T, im impl.Image, r int64) {
	t.Helper()
	defer wantNoPanic(t, []any{im, r})
	wantZeroImage(t, []any{im, r}, impl.Median(im, r))
}
