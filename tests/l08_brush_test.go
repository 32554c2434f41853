package tests

import (
	"slices"
	"testing"

	"loop.example/g00050/impl"
)

func wantBrush(t *testing.T, what any, brush []impl.Spot2, want bool) {
	t.Helper()
	defer wantNoPanic(t, what)
	if impl.BrushOk(brush) != want {
		t.Errorf("%v: BrushOk is %v", what, !want)
	}
	// What is no brush is none for the others too; a mask of one 1 tells them apart, for none of its answers is the zero image.
	one := rowImage(1)
	if got := impl.Dilate(one, brush); isZeroImage(got) == want {
		t.Errorf("%v: dilated to %v", what, got)
	}
	if got := impl.Erode(one, brush); isZeroImage(got) == want {
		t.Errorf("%v: eroded to %v", what, got)
	}
}

func TestBrushCounts(t *testing.T) {
	if impl.MaxBrush != 25 || impl.MaxReach != 3 {
		t.Error("limits", impl.MaxBrush, impl.MaxReach)
	}
	all := squareBrush(5)
	m := mixer(141)
	for _, n := range []int{0, 1, 2, 24, 25, 26, 27, 50, 121} {
		wantBrush(t, n, all[:n], n <= 25)
		wantBrush(t, n, all[len(all)-n:], n <= 25)
		wantBrush(t, n, m.brush(n, 5), n <= 25)
	}
	wantBrush(t, "nil", nil, true)
	wantBrush(t, "like offsets, and many", make([]impl.Spot2, 100000), false)
}

func TestBrushNumbers(t *testing.T) {
	numbers := []int64{-5, 5, -6, 6, -4, 4, 0, 1, -1, 7, -7, 1 << 32, 1<<32 + 1, -1 << 32, -1<<32 - 5, 1 << 62, leastInt, leastInt + 1, mostInt - 1, mostInt}
	for _, number := range numbers {
		right := number >= -5 && number <= 5
		wantBrush(t, number, []impl.Spot2{{X: number}}, right)
		wantBrush(t, number, []impl.Spot2{{Y: number}}, right)
		wantBrush(t, number, []impl.Spot2{{X: number, Y: number}}, right)
		for at := range 3 { // among others, at each place
			others := []impl.Spot2{{X: 2, Y: -3}, {X: -2, Y: 3}, {X: 3, Y: 3}}
			others[at].X = number
			wantBrush(t, []any{number, at}, others, right)
			others = []impl.Spot2{{X: 2, Y: -3}, {X: -2, Y: 3}, {X: 3, Y: 2}}
			others[at].Y = number
			wantBrush(t, []any{number, at}, others, right)
		}
	}
	for _, x := range numbers {
		for _, y := range numbers {
			wantBrush(t, []int64{x, y}, []impl.Spot2{{X: x, Y: y}}, x >= -5 && x <= 5 && y >= -5 && y <= 5)
		}
	}
}

func TestBrushTwice(t *testing.T) {
	for _, offset := range []impl.Spot2{{}, {X: 1}, {Y: -1}, {X: -5, Y: 5}, {X: 5, Y: 5}} {
		wantBrush(t, offset, []impl.Spot2{offset, offset}, false)
		wantBrush(t, offset, []impl.Spot2{offset, offset, offset}, false)
		wantBrush(t, offset, []impl.Spot2{offset, {X: 3, Y: 4}}, true)
		wantBrush(t, offset, []impl.Spot2{offset, {X: 3, Y: 4}, offset}, false)
		wantBrush(t, offset, []impl.Spot2{{X: 3, Y: 4}, offset, offset}, false)
	}
	list := squareBrush(2)
	for one := range list { // each pair of places of a brush that is as long as can be
		for other := range one {
			twice := slices.Clone(list)
			twice[one] = twice[other]
			wantBrush(t, []int{one, other}, twice, false)
		}
	}
	for a := int64(-5); a <= 5; a++ { // columns and rows are not the same, and no sum or product of both tells an offset
		for b := int64(-5); b <= 5; b++ {
			wantBrush(t, []int64{a, b}, []impl.Spot2{{X: a, Y: b}, {X: b, Y: a}}, a != b)
			wantBrush(t, []int64{a, b}, []impl.Spot2{{X: a, Y: b}, {X: -a, Y: b}}, a != 0)
			wantBrush(t, []int64{a, b}, []impl.Spot2{{X: a, Y: b}, {X: a, Y: -b}}, b != 0)
			wantBrush(t, []int64{a, b}, []impl.Spot2{{X: a, Y: b}, {X: -a, Y: -b}}, a != 0 || b != 0)
		}
	}
}

func wantBrushed(t *testing.T, what any, mask impl.Image, brush []impl.Spot2) {
	t.Helper()
	wantImage(t, []any{"dilated", what, brush}, impl.Dilate(mask, brush), plainDilate(mask, brush))
	wantImage(t, []any{"eroded", what, brush}, impl.Erode(mask, brush), plainErode(mask, brush))
}

func TestBrushedPlainly(t *testing.T) {
	m := mixer(142)
	for _, size := range sizesOfImages() {
		brushes := m.brushes()
		for i, mask := range m.masks(size[0], size[1]) {
			if size[0]*size[1] > 1000 && i > 5 {
				break
			}
			for _, brush := range brushes {
				wantBrushed(t, []any{size, i}, mask, brush)
			}
		}
	}
	for range 400 {
		mask := m.mask(m.pick(1, 9), m.pick(1, 9), m.pick(1, 9))
		wantBrushed(t, mask, mask, m.brush(int(m.pick(0, 25)), m.pick(2, 5)))
	}
}

// One pixel and one offset: each pixel of a small mask, each offset that there is.
func TestBrushedByOneOffset(t *testing.T) {
	for place := range 12 {
		blank, full := impl.Image{W: 4, H: 3, Pix: make([]int64, 12)}, impl.Image{W: 4, H: 3, Pix: slices.Repeat([]int64{1}, 12)}
		lone, hole := changed(blank, place, 1), changed(full, place, 0)
		x, y := int64(place%4), int64(place/4)
		for _, offset := range squareBrush(5) {
			want := drawnImage(4, 3, func(a, b int64) int64 { return oneIf(a == x+offset.X && b == y+offset.Y) })
			wantImage(t, []any{place, offset}, impl.Dilate(lone, []impl.Spot2{offset}), want)
			want = drawnImage(4, 3, func(a, b int64) int64 { return oneIf(a != x-offset.X || b != y-offset.Y) })
			wantImage(t, []any{place, offset}, impl.Erode(hole, []impl.Spot2{offset}), want)
			wantImage(t, []any{"all, past the edges too", offset}, impl.Erode(full, []impl.Spot2{offset}), full)
			wantImage(t, []any{"none", offset}, impl.Dilate(blank, []impl.Spot2{offset}), blank)
		}
	}
}

func TestBrushedByHand(t *testing.T) {
	mask := signImage(
		"#....",
		"..#..",
		"..##.",
		".....")
	cross := []impl.Spot2{{}, {X: 1}, {X: -1}, {Y: 1}, {Y: -1}}
	wantImage(t, "a cross", impl.Dilate(mask, cross), signImage(
		"###..",
		"####.",
		".####",
		"..##."))
	wantImage(t, "a cross, back", impl.Erode(impl.Dilate(mask, cross), cross), signImage(
		"##...",
		".##..",
		"..##.",
		"....."))
	wantImage(t, "to the right and below", impl.Dilate(mask, []impl.Spot2{{X: 1, Y: 1}}), signImage(
		".....",
		".#...",
		"...#.",
		"...##"))
	wantImage(t, "what stands past an edge is not asked for", impl.Erode(mask, []impl.Spot2{{X: 1, Y: 1}}), signImage(
		".#..#",
		".##.#",
		"....#",
		"#####"))
	wantImage(t, "past all pixels", impl.Dilate(mask, []impl.Spot2{{X: 5}, {X: -5}, {Y: 4}, {Y: -4}}), impl.Image{W: 5, H: 4, Pix: make([]int64, 20)})
	wantImage(t, "past all pixels", impl.Erode(mask, []impl.Spot2{{X: 5}, {X: -5}, {Y: 4}, {Y: -4}}), impl.Image{W: 5, H: 4, Pix: slices.Repeat([]int64{1}, 20)})
}

// No offset: nothing is dilated, and nothing is in the way of a one.
func TestBrushedByNoOffset(t *testing.T) {
	m := mixer(143)
	for _, size := range sizesOfImages() {
		n := int(size[0] * size[1])
		for i, mask := range m.masks(size[0], size[1]) {
			for _, brush := range [][]impl.Spot2{nil, {}, make([]impl.Spot2, 0, 4)} {
				wantImage(t, []any{size, i}, impl.Dilate(mask, brush), impl.Image{W: size[0], H: size[1], Pix: make([]int64, n)})
				wantImage(t, []any{size, i}, impl.Erode(mask, brush), impl.Image{W: size[0], H: size[1], Pix: slices.Repeat([]int64{1}, n)})
			}
			wantImage(t, []any{"as it is", size, i}, impl.Dilate(mask, []impl.Spot2{{}}), mask)
			wantImage(t, []any{"as it is", size, i}, impl.Erode(mask, []impl.Spot2{{}}), mask)
		}
	}
}

// wantAdjoint holds both sides of promise 11 against each other, and says whether they hold.
func wantAdjoint(t *testing.T, a, b impl.Image, brush []impl.Spot2) bool {
	t.Helper()
	dilated := liesWithin(impl.Dilate(a, brush), b)
	if eroded := liesWithin(a, impl.Erode(b, brush)); dilated != eroded {
		t.Errorf("%v and %v by %v: dilated %v, eroded %v", a, b, brush, dilated, eroded)
	}
	return dilated
}

// Promise 11, of brushes.
func TestDilatedWithinJustIfWithinEroded(t *testing.T) {
	m := mixer(144)
	told := map[bool]int{}
	for range 300 {
		w, h := m.pick(1, 9), m.pick(1, 9)
		a, b := m.mask(w, h, m.pick(0, 4)), m.mask(w, h, m.pick(5, 10))
		for _, brush := range [][]impl.Spot2{nil, m.brush(1, 5), m.brush(3, 1), m.brush(int(m.pick(1, 25)), 5)} {
			told[wantAdjoint(t, a, b, brush)]++
			told[wantAdjoint(t, b, a, brush)]++
			told[wantNear(t, &m, a, b, brush)]++
		}
	}
	if told[true] < 500 || told[false] < 500 {
		t.Error("too few of one kind", told)
	}
}

// wantNear asks for pairs that hold just so, and that one pixel breaks.
func wantNear(t *testing.T, m *mixer, a, b impl.Image, brush []impl.Spot2) bool {
	t.Helper()
	dilated, eroded := impl.Dilate(a, brush), impl.Erode(b, brush)
	if !wantAdjoint(t, a, dilated, brush) || !wantAdjoint(t, eroded, b, brush) {
		t.Errorf("%v and %v by %v: not within", a, b, brush)
	}
	for i := range dilated.Pix {
		if dilated.Pix[i] == 1 && wantAdjoint(t, a, changed(dilated, i, 0), brush) {
			t.Errorf("%v by %v: pixel %d is one too many", a, brush, i)
		}
		if eroded.Pix[i] == 0 && wantAdjoint(t, changed(eroded, i, 1), b, brush) {
			t.Errorf("%v by %v: pixel %d is missing", b, brush, i)
		}
	}
	at := int(m.pick(0, int64(len(a.Pix)-1)))
	return wantAdjoint(t, changed(a, at, 1-a.Pix[at]), dilated, brush)
}

// All pairs of small masks, with brushes that lead past each edge.
func TestAdjointOfAllSmallMasks(t *testing.T) {
	brushes := [][]impl.Spot2{nil, {{}}, {{X: 1}}, {{X: -1}, {}}, {{Y: 1}, {X: 1}}, {{X: 2, Y: 1}, {X: -1, Y: -1}}, {{X: 5, Y: 5}}, squareBrush(1)}
	for _, size := range [][2]int64{{1, 1}, {3, 2}, {1, 4}} {
		n := size[0] * size[1]
		for a := range int64(1) << n {
			for b := range int64(1) << n {
				for _, brush := range brushes {
					wantAdjoint(t, impl.Image{W: size[0], H: size[1], Pix: bitsOfMask(a, n)}, impl.Image{W: size[0], H: size[1], Pix: bitsOfMask(b, n)}, brush)
				}
			}
		}
	}
}

func TestAdjointAtTheLimits(t *testing.T) {
	m := mixer(145)
	for _, size := range [][2]int64{{1, 64}, {64, 1}, {64, 64}} {
		for _, brush := range [][]impl.Spot2{nil, squareBrush(2), m.brush(25, 5), m.brush(3, 5), {{X: 5, Y: -5}}} {
			for range 6 {
				a, b := m.mask(size[0], size[1], m.pick(0, 3)), m.mask(size[0], size[1], m.pick(7, 10))
				wantAdjoint(t, a, b, brush)
				wantAdjoint(t, a, impl.Dilate(a, brush), brush)
				wantAdjoint(t, impl.Erode(b, brush), b, brush)
			}
		}
	}
}

func TestBrushedOfWrongArguments(t *testing.T) {
	for _, mask := range noMasks() {
		for _, brush := range [][]impl.Spot2{nil, {{}}, {{X: 1}, {Y: -5}}, squareBrush(2)} {
			wantNoBrushed(t, mask, mask, brush)
		}
	}
	m := mixer(146)
	for _, brush := range wrongBrushes() {
		wantBrush(t, brush, brush, false)
		for _, mask := range []impl.Image{rowImage(0), rowImage(1), m.mask(5, 4, 5), m.mask(64, 64, 5)} {
			wantNoBrushed(t, brush, mask, brush)
		}
		wantNoBrushed(t, "both", rowImage(2), brush)
		wantNoBrushed(t, "both", impl.Image{}, brush)
	}
}

func wantNoBrushed(t *testing.T, what any, mask impl.Image, brush []impl.Spot2) {
	t.Helper()
	defer wantNoPanic(t, what)
	wantZeroImage(t, []any{"dilated", what}, impl.Dilate(mask, brush))
	wantZeroImage(t, []any{"eroded", what}, impl.Erode(mask, brush))
}
