package tests

import (
	"slices"
	"testing"

	"loop.example/g00050/impl"
)

// wantDistance asks for the document's number, and for what promise 11 says of it.
func wantDistance(t *testing.T, what any, mask impl.Image) {
	t.Helper()
	got := impl.Distance(mask)
	wantImage(t, what, got, plainDistance(mask))
	ones := onesOf(mask)
	for y := range mask.H {
		for x := range mask.W {
			number, stands := pixelAt(got, x, y)
			if !stands || (number == 0) != (mask.Pix[y*mask.W+x] == 1) {
				t.Fatalf("%v: %d at %d %d", what, number, x, y)
			}
			for i := 0; i < len(ones); i += 1 + len(ones)/50 {
				if one := ones[i]; number > (x-one.X)*(x-one.X)+(y-one.Y)*(y-one.Y) {
					t.Fatalf("%v: %d at %d %d is more than the way to %v", what, number, x, y, one)
				}
			}
		}
	}
}

// Promise 11, of distances.
func TestDistancePlainly(t *testing.T) {
	m := mixer(151)
	for _, size := range sizesOfImages() {
		for i, mask := range m.masks(size[0], size[1]) {
			if size[0]*size[1] > 1000 && i > 7 {
				break
			}
			wantDistance(t, []any{size, i}, mask)
		}
	}
	for range 400 { // few ones
		w, h := m.pick(1, 20), m.pick(1, 20)
		mask := impl.Image{W: w, H: h, Pix: make([]int64, w*h)}
		for range m.pick(0, 3) {
			mask.Pix[m.pick(0, w*h-1)] = 1
		}
		wantDistance(t, mask, mask)
	}
	for bits := range int64(1) << 9 {
		wantDistance(t, bits, impl.Image{W: 3, H: 3, Pix: bitsOfMask(bits, 9)})
	}
}

func TestDistanceOfNoOne(t *testing.T) {
	for _, size := range sizesOfImages() {
		n := int(size[0] * size[1])
		got := impl.Distance(impl.Image{W: size[0], H: size[1], Pix: make([]int64, n)})
		wantImage(t, size, got, impl.Image{W: size[0], H: size[1], Pix: slices.Repeat([]int64{-1}, n)})
	}
}

func TestDistanceOfOneOne(t *testing.T) {
	for _, size := range sizesOfImages() {
		w, h := size[0], size[1]
		for _, corner := range [][2]int64{{0, 0}, {w - 1, 0}, {0, h - 1}, {w - 1, h - 1}, {w / 2, h / 2}} {
			one := drawnImage(w, h, func(x, y int64) int64 { return oneIf(x == corner[0] && y == corner[1]) })
			want := drawnImage(w, h, func(x, y int64) int64 {
				return (x-corner[0])*(x-corner[0]) + (y-corner[1])*(y-corner[1])
			})
			wantImage(t, []any{size, corner}, impl.Distance(one), want)
		}
	}
	farthest := impl.Image{W: 64, H: 64, Pix: make([]int64, 4096)}
	farthest.Pix[0] = 1
	if got := impl.Distance(farthest); got.Pix[4095] != 2*63*63 || got.Pix[63] != 63*63 || got.Pix[63*64] != 63*63 {
		t.Error(got.Pix[63], got.Pix[4095])
	}
}

func TestDistanceByHand(t *testing.T) {
	mask := signImage(
		"#....",
		".....",
		"...#.",
		".....")
	wantImage(t, "two ones", impl.Distance(mask), signImage(
		"01445",
		"12212",
		"44101",
		"95212"))
	wantImage(t, "a row", impl.Distance(rowImage(0, 0, 0, 1, 0, 0, 1)), rowImage(9, 4, 1, 0, 1, 1, 0))
	wantImage(t, "a column", impl.Distance(upright(rowImage(1, 0, 0, 0, 0, 0, 1))), upright(rowImage(0, 1, 4, 9, 4, 1, 0)))
	// The nearest one lies neither in its row nor in its column, and each of these has one.
	wantImage(t, "aslant", impl.Distance(signImage("....#", ".....", "..#..", ".....", "#....")), signImage("85410", "52121", "41014", "12125", "01458"))
}

func TestDistanceOfNoMask(t *testing.T) {
	for _, mask := range noMasks() {
		wantNoParts(t, mask)
	}
}

func wantNoParts(t *testing.T, mask impl.Image) {
	t.Helper()
	defer wantNoPanic(t, mask)
	wantZeroImage(t, []any{"distance", mask}, impl.Distance(mask))
	wantZeroImage(t, []any{"label", mask}, impl.Label(mask))
}
