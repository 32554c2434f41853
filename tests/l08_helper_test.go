package tests

import (
	"math/big"
	"slices"
	"testing"

	"loop.example/g00050/impl"
)

// pixelAt is im's pixel at a place, and whether one stands there.
func pixelAt(im impl.Image, x, y int64) (int64, bool) {
	if x < 0 || y < 0 || x >= im.W || y >= im.H {
		return 0, false
	}
	return im.Pix[y*im.W+x], true
}

// drawnImage is an image whose pixels are told one by one.
func drawnImage(w, h int64, pixel func(x, y int64) int64) impl.Image {
	im := impl.Image{W: w, H: h}
	for y := range h {
		for x := range w {
			im.Pix = append(im.Pix, pixel(x, y))
		}
	}
	return im
}

// rowImage is an image of one row.
func rowImage(pixels ...int64) impl.Image {
	return impl.Image{W: int64(len(pixels)), H: 1, Pix: pixels}
}

// signImage has a row for each text: a point is 0, # is 1, and a digit is itself.
func signImage(rows ...string) impl.Image {
	return drawnImage(int64(len(rows[0])), int64(len(rows)), func(x, y int64) int64 {
		switch sign := rows[y][x]; sign {
		case '.':
			return 0
		case '#':
			return 1
		default:
			return int64(sign - '0')
		}
	})
}

// upright changes columns for rows.
func upright(im impl.Image) impl.Image {
	return drawnImage(im.H, im.W, func(x, y int64) int64 { return im.Pix[x*im.W+y] })
}

// oneIf is 1 where what is asked holds.
func oneIf(holds bool) int64 {
	if holds {
		return 1
	}
	return 0
}

func plainDilate(mask impl.Image, brush []impl.Spot2) impl.Image {
	return drawnImage(mask.W, mask.H, func(x, y int64) int64 {
		for _, offset := range brush {
			if pixel, stands := pixelAt(mask, x-offset.X, y-offset.Y); stands && pixel == 1 {
				return 1
			}
		}
		return 0
	})
}

func plainErode(mask impl.Image, brush []impl.Spot2) impl.Image {
	return drawnImage(mask.W, mask.H, func(x, y int64) int64 {
		for _, offset := range brush {
			if pixel, stands := pixelAt(mask, x+offset.X, y+offset.Y); stands && pixel != 1 {
				return 0
			}
		}
		return 1
	})
}

// onesOf are the places of a mask's ones.
func onesOf(mask impl.Image) []impl.Spot2 {
	var list []impl.Spot2
	for y := range mask.H {
		for x := range mask.W {
			if mask.Pix[y*mask.W+x] == 1 {
				list = append(list, impl.Spot2{X: x, Y: y})
			}
		}
	}
	return list
}

func plainDistance(mask impl.Image) impl.Image {
	ones := onesOf(mask)
	return drawnImage(mask.W, mask.H, func(x, y int64) int64 {
		least := int64(-1)
		for _, one := range ones {
			if way := (x-one.X)*(x-one.X) + (y-one.Y)*(y-one.Y); least == -1 || way < least {
				least = way
			}
		}
		return least
	})
}

// firstOnes has at each one the place of the first one that it is joined with, found by letting the lesser place pass on until nothing changes; -1 at noughts.
func firstOnes(mask impl.Image) []int64 {
	first := make([]int64, len(mask.Pix))
	for i, pixel := range mask.Pix {
		first[i] = int64(i)
		if pixel == 0 {
			first[i] = -1
		}
	}
	for changed := true; changed; {
		changed = false
		pass := func(i, near int64) {
			if first[i] >= 0 && first[near] >= 0 && first[i] != first[near] {
				least := min(first[i], first[near])
				first[i], first[near], changed = least, least, true
			}
		}
		for i := range mask.W * mask.H {
			if i%mask.W > 0 {
				pass(i, i-1)
			}
			if i >= mask.W {
				pass(i, i-mask.W)
			}
		}
		for i := mask.W*mask.H - 1; i >= 0; i-- { // and backwards, so that it takes few rounds
			if i%mask.W > 0 {
				pass(i, i-1)
			}
			if i >= mask.W {
				pass(i, i-mask.W)
			}
		}
	}
	return first
}

func plainLabel(mask impl.Image) impl.Image {
	first := firstOnes(mask)
	var starts []int64
	for i, start := range first {
		if start == int64(i) {
			starts = append(starts, start)
		}
	}
	out := impl.Image{W: mask.W, H: mask.H}
	for _, start := range first {
		out.Pix = append(out.Pix, int64(slices.Index(starts, start)+1))
	}
	return out
}

// plainMedian finds the pixel that has the place by counting those that are less, with no list put in order.
func plainMedian(im impl.Image, r int64) impl.Image {
	return drawnImage(im.W, im.H, func(x, y int64) int64 {
		var around []int64
		for b := range im.H {
			for a := range im.W {
				if max(a-x, x-a) <= r && max(b-y, y-b) <= r {
					around = append(around, im.Pix[b*im.W+a])
				}
			}
		}
		place := (len(around) - 1) / 2
		for _, pixel := range around {
			less, same := 0, 0
			for _, other := range around {
				less += int(oneIf(other < pixel))
				same += int(oneIf(other == pixel))
			}
			if less <= place && place < less+same {
				return pixel
			}
		}
		panic("no pixel has the place")
	})
}

// plainSlope is the zero image where a number would be too great.
func plainSlope(im impl.Image) impl.Image {
	out := drawnImage(im.W, im.H, func(x, y int64) int64 {
		own, _ := pixelAt(im, x, y)
		right, stands := pixelAt(im, x+1, y)
		if !stands {
			right = own
		}
		below, stands := pixelAt(im, x, y+1)
		if !stands {
			below = own
		}
		return max(right-own, own-right) + max(below-own, own-below)
	})
	if slices.Max(out.Pix) > 1000000000 {
		return impl.Image{}
	}
	return out
}

// plainBlur reckons without an end and divides by a number that is above 0, where Div rounds down.
func plainBlur(im impl.Image, kernel []int64, shift int64) impl.Image {
	by, tooGreat := new(big.Int).Exp(big.NewInt(2), big.NewInt(shift), nil), false
	out := drawnImage(im.W, im.H, func(x, y int64) int64 {
		sum := new(big.Int)
		for b := int64(-1); b <= 1; b++ {
			for a := int64(-1); a <= 1; a++ {
				pixel, _ := pixelAt(im, x+a, y+b)
				sum.Add(sum, new(big.Int).Mul(big.NewInt(kernel[3*(b+1)+(a+1)]), big.NewInt(pixel)))
			}
		}
		sum.Div(sum, by)
		tooGreat = tooGreat || sum.CmpAbs(big.NewInt(1000000000)) > 0
		return sum.Int64()
	})
	if tooGreat {
		return impl.Image{}
	}
	return out
}

// brush is a drawn one of n offsets with numbers of at most reach in size.
func (m *mixer) brush(n int, reach int64) []impl.Spot2 {
	var list []impl.Spot2
	for len(list) < n {
		if offset := (impl.Spot2{X: m.pick(-reach, reach), Y: m.pick(-reach, reach)}); !slices.Contains(list, offset) {
			list = append(list, offset)
		}
	}
	return list
}

// squareBrush has the offsets of a square, by rows.
func squareBrush(reach int64) []impl.Spot2 {
	var list []impl.Spot2
	for y := -reach; y <= reach; y++ {
		for x := -reach; x <= reach; x++ {
			list = append(list, impl.Spot2{X: x, Y: y})
		}
	}
	return list
}

// brushes are the empty one, single offsets of all directions, a square of as many as there can be, and drawn ones.
func (m *mixer) brushes() [][]impl.Spot2 {
	list := [][]impl.Spot2{nil, {}, squareBrush(1), squareBrush(2), {{X: -1}, {X: 1}, {Y: -1}, {Y: 1}}, {{X: 5, Y: 5}, {X: -5, Y: 5}, {X: 5, Y: -5}, {X: -5, Y: -5}}}
	for _, way := range squareBrush(1) {
		list = append(list, []impl.Spot2{way}, []impl.Spot2{{X: 5 * way.X, Y: 5 * way.Y}}, []impl.Spot2{{X: 2 * way.X, Y: 3 * way.Y}})
	}
	for range 3 {
		list = append(list, m.brush(2, 1), m.brush(4, 2), m.brush(7, 3), m.brush(12, 5), m.brush(impl.MaxBrush, 5))
	}
	return list
}

// wrongBrushes are none, each for one reason alone.
func wrongBrushes() [][]impl.Spot2 {
	list := [][]impl.Spot2{{{}, {}}, {{X: 1}, {X: 1}}, {{X: -5, Y: 5}, {X: 1}, {X: -5, Y: 5}}, squareBrush(3)[:26], squareBrush(3)}
	for _, number := range []int64{6, -6, 7, 1 << 32, 1<<32 + 1, -1 << 32, leastInt, leastInt + 1, mostInt - 1, mostInt} {
		list = append(list, []impl.Spot2{{X: number}}, []impl.Spot2{{Y: number}}, []impl.Spot2{{X: 1}, {}, {X: 2, Y: number}}, []impl.Spot2{{X: number, Y: -5}, {X: 1}})
	}
	return list
}

// sizesOfImages have sides at both limits.
func sizesOfImages() [][2]int64 {
	return [][2]int64{{1, 1}, {2, 1}, {1, 2}, {2, 2}, {3, 3}, {4, 7}, {11, 3}, {1, 64}, {64, 1}, {64, 64}}
}

// noMasks are images that are not right, and right ones with a pixel that is neither 0 nor 1.
func noMasks() []impl.Image {
	list := wrongImages()
	for _, pixel := range []int64{2, -1, 3, -2, 255, 1 << 29, impl.MaxPix, -impl.MaxPix} {
		list = append(list, rowImage(pixel))
		for at := range 6 {
			im := impl.Image{W: 3, H: 2, Pix: []int64{0, 1, 1, 0, 0, 1}}
			im.Pix[at] = pixel
			list = append(list, im)
		}
	}
	return list
}

// liesWithin says whether each one of a is one of b.
func liesWithin(a, b impl.Image) bool {
	for i := range a.Pix {
		if a.Pix[i] == 1 && b.Pix[i] != 1 {
			return false
		}
	}
	return true
}

// changed is im with one pixel changed.
func changed(im impl.Image, at int, pixel int64) impl.Image {
	out := impl.Image{W: im.W, H: im.H, Pix: slices.Clone(im.Pix)}
	out.Pix[at] = pixel
	return out
}

func wantZeroImage(t *testing.T, what any, got impl.Image) {
	t.Helper()
	if !isZeroImage(got) {
		t.Errorf("%v: %d x %d %s, want the zero image", what, got.W, got.H, brief(got.Pix))
	}
}
