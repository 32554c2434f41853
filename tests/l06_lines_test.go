package tests

import (
	"slices"
	"testing"

	"loop.example/g00050/impl"
)

func TestLinesPlainly(t *testing.T) {
	m := mixer(100)
	for _, p := range primeSides() {
		for i, im := range append(m.tones(p), lonePixels(p, 7)...) {
			wantLists(t, []any{"lines", p, i}, impl.Lines(im), plainLines(im))
		}
	}
}

func TestLinesByHand(t *testing.T) {
	im := impl.Image{W: 3, H: 3, Pix: []int64{1, 2, 4, 8, 16, 32, 64, 128, 256}}
	wantLists(t, "powers of two", impl.Lines(im), []int64{
		1 + 2 + 4, 8 + 16 + 32, 64 + 128 + 256, // the rows
		1 + 16 + 256, 8 + 128 + 4, 64 + 2 + 32, // one down a column
		1 + 128 + 32, 8 + 2 + 256, 64 + 16 + 4, // two down a column
		1 + 8 + 64, 2 + 16 + 128, 4 + 32 + 256}) // the columns
	least := filledImage(31, func(x, y int64) int64 { return -impl.MaxTone })
	wantLists(t, "the least lines", impl.Lines(least), slices.Repeat([]int64{-126945}, 992))
}

func TestLinesOfNoTones(t *testing.T) {
	for _, im := range wrongImages() {
		wantNoTones(t, im.W, im, make([]int64, 6))
		wantNoTones(t, im.W, im, nil)
	}
	for _, p := range noPrimeSides() {
		im := filledImage(p, func(x, y int64) int64 { return 1 })
		wantNoTones(t, p, im, slices.Repeat([]int64{p}, int((p+1)*p)))
		wantNoTones(t, p, im, make([]int64, 992))
	}
	for _, size := range [][2]int64{{2, 3}, {3, 2}, {1, 2}, {2, 1}, {31, 29}, {29, 31}, {31, 1}, {1, 31}, {5, 64}, {64, 5}} {
		im := impl.Image{W: size[0], H: size[1], Pix: make([]int64, size[0]*size[1])}
		for _, p := range size {
			wantNoTones(t, size, im, make([]int64, (p+1)*p))
		}
	}
	nine := make([]int64, 9)
	wantNoTones(t, "a row too few", impl.Image{W: 3, H: 3, Pix: nine[:6]}, make([]int64, 12))
	wantNoTones(t, "a pixel too few, with room", impl.Image{W: 3, H: 3, Pix: nine[:8]}, make([]int64, 12))
	wantNoTones(t, "a pixel too many", impl.Image{W: 3, H: 3, Pix: make([]int64, 10)}, make([]int64, 12))
	wantNoTones(t, "sides below 0", impl.Image{W: -3, H: -3, Pix: nine}, make([]int64, 12))
}

func TestTonesAtTheLimits(t *testing.T) {
	for _, p := range primeSides() {
		for _, at := range []int64{0, 1, p, p*p - 1} {
			im := impl.Image{W: p, H: p, Pix: make([]int64, p*p)}
			for _, tone := range []int64{impl.MaxTone, -impl.MaxTone} {
				im.Pix[at] = tone
				wantLists(t, []int64{p, at, tone}, impl.Lines(im), plainLines(im))
				if impl.Misfit(im, plainLines(im)) != 0 {
					t.Error("misfit", p, at, tone)
				}
			}
			for _, tone := range []int64{impl.MaxTone + 1, -impl.MaxTone - 1, impl.MaxPix, -impl.MaxPix, impl.MaxPix + 1, leastInt, leastInt + 1, mostInt, 1 << 32, -1 << 32} {
				im.Pix[at] = tone
				wantNoTones(t, []int64{p, at, tone}, im, make([]int64, (p+1)*p))
			}
		}
	}
}

func TestSideOf(t *testing.T) {
	sides := map[int64]int64{6: 2, 12: 3, 30: 5, 56: 7, 132: 11, 182: 13, 306: 17, 380: 19, 552: 23, 870: 29, 992: 31}
	list := []int64{leastInt, leastInt + 1, leastInt + 6, mostInt, mostInt - 1, -1 << 32, 1 << 32, 1<<32 + 6, 1<<32 + 992, 1 << 62, 1<<62 + 12, -992, 37 * 38, 61 * 62, 64 * 65}
	for n := int64(-10); n <= 1100; n++ {
		list = append(list, n)
	}
	for _, n := range list {
		if got := impl.SideOf(n); got != sides[n] {
			t.Errorf("%d: %d, want %d", n, got, sides[n])
		}
	}
}

// Promise 9, of lines and their way back.
func TestFromLinesOfLines(t *testing.T) {
	m := mixer(101)
	for _, p := range primeSides() {
		list := m.tones(p)
		for _, tone := range []int64{impl.MaxTone, -impl.MaxTone, 1, -1} {
			list = append(list, lonePixels(p, tone)...)
		}
		for i, im := range list {
			sums := impl.Lines(im)
			wantImageOf(t, []any{"there and back", p, i}, sums, im)
			if got := impl.Misfit(im, sums); got != 0 {
				t.Errorf("side %d, image %d: misfit %d", p, i, got)
			}
		}
	}
}

// Promise 9: the sums hang together, so that none of them can be another one.
func TestFromLinesWithOneSumOff(t *testing.T) {
	m := mixer(102)
	for _, p := range primeSides() {
		im := m.image(p, p, impl.MaxTone)
		sums, offs := impl.Lines(im), []int64{1, -1, p, -p}
		if p > 13 {
			offs = offs[:2]
		}
		for i := range sums {
			for _, off := range offs {
				sums[i] += off
				wantNoImage(t, []int64{p, int64(i), off}, sums)
				if got := impl.Misfit(im, sums); got != off*off {
					t.Errorf("side %d, sum %d off by %d: misfit %d", p, i, off, got)
				}
				sums[i] -= off
			}
		}
		wantImageOf(t, "with no sum off", sums, im)
	}
}

func TestFromLinesOfNoSide(t *testing.T) {
	wantNoImage(t, "nil", nil)
	noughts := make([]int64, 5000)
	for n := range noughts {
		side := impl.SideOf(int64(n))
		if side == 0 {
			wantNoImage(t, n, noughts[:n])
		} else {
			wantImageOf(t, n, noughts[:n], impl.Image{W: side, H: side, Pix: make([]int64, side*side)})
		}
	}
}

func TestFromLinesOfGreatSums(t *testing.T) {
	great := []int64{impl.MaxLine, impl.MaxLine + 1, -impl.MaxLine, -impl.MaxLine - 1, leastInt, leastInt + 1, mostInt, mostInt - 1, 1 << 62, -1 << 62, 1 << 32}
	for _, p := range primeSides() {
		count := (p + 1) * p
		for _, n := range great {
			wantNoImage(t, []int64{p, n}, slices.Repeat([]int64{n}, int(count)))
			for _, at := range []int64{0, 1, p - 1, p, count - 1} {
				sums := make([]int64, count)
				sums[at] = n
				wantNoImage(t, []int64{p, n, at}, sums)
			}
		}
	}
	// What wraps round is nought here: the sum of the rows, and that of the three lines through each pixel.
	wantNoImage(t, "ends that cancel", []int64{leastInt, leastInt, 0, 0, leastInt, leastInt})
	wantNoImage(t, "ends that cancel", []int64{leastInt, leastInt, leastInt, leastInt, 0, 0})
	wantNoImage(t, "quarters of all numbers", slices.Repeat([]int64{1 << 62}, 12))
	wantNoImage(t, "ends of either sign", []int64{mostInt, leastInt, mostInt, leastInt, mostInt, leastInt})
}

func TestFromLinesOfNoWholePixels(t *testing.T) {
	for _, p := range primeSides() {
		for part := int64(1); part < p; part++ {
			// All lines of one slope are part more: then each pixel would be part / p more.
			sums := impl.Lines(filledImage(p, func(x, y int64) int64 { return 5 }))
			for i := range p {
				sums[p+i] += part
			}
			wantNoImage(t, []int64{p, part}, sums)
		}
	}
	wantNoImage(t, "halves", []int64{1, 1, 1, 1, 1, 1})
	wantNoImage(t, "thirds", slices.Repeat([]int64{1}, 12))
	wantNoImage(t, "below 0", slices.Repeat([]int64{-1}, 12))
}

func TestFromLinesOfNoTones(t *testing.T) {
	for _, p := range primeSides() {
		for _, tone := range []int64{impl.MaxTone, impl.MaxTone + 1, -impl.MaxTone, -impl.MaxTone - 1} {
			alike := filledImage(p, func(x, y int64) int64 { return tone })
			for _, im := range append(lonePixels(p, tone), alike) {
				sums := plainLines(im)
				if tone == impl.MaxTone || tone == -impl.MaxTone {
					wantImageOf(t, []int64{p, tone}, sums, im)
				} else {
					wantNoImage(t, []int64{p, tone}, sums)
				}
			}
		}
	}
	for _, p := range primeSides() { // the greatest whole pixels whose lines are line sums
		im := filledImage(p, func(x, y int64) int64 { return impl.MaxLine / p })
		wantNoImage(t, p, plainLines(im))
	}
}

// p times each pixel is told by the sums, but the sums are not its lines.
func TestFromLinesThatGainsay(t *testing.T) {
	m := mixer(103)
	for _, p := range primeSides() {
		im := m.image(p, p, 1000)
		for _, off := range [][]int64{{0, 1, -1}, {0, 3 * p, -2 * p}, {0, p}, {0, -p}, {1, p - 1}, {-2, 0, 2 - 2*p}} {
			sums := impl.Lines(im)
			for slope, more := range off { // all lines of one slope are so much more
				for i := range p {
					sums[int64(slope)*p+i] += more
				}
			}
			wantWholePixels(t, p, sums)
			wantNoImage(t, []any{p, off}, sums)
		}
	}
	wantNoImage(t, "2", []int64{3, 7, 5, 5, 4, 7})
	wantNoImage(t, "2, all whole", []int64{3, 7, 6, 6, 3, 5})
}

// wantWholePixels holds the test itself to its word: p times a tone comes out at each pixel.
func wantWholePixels(t *testing.T, p int64, sums []int64) {
	t.Helper()
	for y := range p {
		for x := range p {
			s := int64(0)
			for _, number := range linesThroughPixel(p, x, y) {
				s += sums[number]
			}
			for i := range p {
				s -= sums[i]
			}
			if s%p != 0 || s > p*impl.MaxTone || s < -p*impl.MaxTone {
				t.Fatal(p, x, y, s)
			}
		}
	}
}

// Promise 3 in lines: a painting in two parts has the lines of both, added.
func TestLinesOfTwoPaintings(t *testing.T) {
	m := mixer(104)
	asked := 0
	for range 40 {
		for _, p := range primeSides() {
			n := int(m.pick(0, 12))
			list, cut := m.shapesNear(n, p), int(m.pick(0, int64(n)))
			whole, one, two := impl.Lines(impl.Paint(list, p, p)), impl.Lines(impl.Paint(list[:cut], p, p)), impl.Lines(impl.Paint(list[cut:], p, p))
			if len(whole) == 0 || len(one) == 0 || len(two) == 0 {
				continue
			}
			asked++
			for i := range one {
				one[i] += two[i]
			}
			wantLists(t, []any{p, n, cut}, whole, one)
		}
	}
	if asked < 300 {
		t.Error("only", asked, "paintings were tone images")
	}
}

// shapesNear are right shapes that lie on an image of side p.
func (m *mixer) shapesNear(n int, p int64) []impl.Shape {
	list := m.shapes(n)
	for i := range list {
		list[i].X, list[i].Y = m.pick(-2, p+1), m.pick(-2, p+1)
	}
	return list
}

func TestLinesAreNewMemory(t *testing.T) {
	m := mixer(105)
	for _, p := range primeSides() {
		im := m.image(p, p, impl.MaxTone)
		was := slices.Clone(im.Pix)
		im.Pix = roomy(was, 7)
		first, second := impl.Lines(im), impl.Lines(im)
		want := slices.Clone(first)
		spoil(first)
		wantLists(t, "two answers", second, want)

		sums := roomy(want, 9)
		one, _ := impl.FromLines(sums)
		two, _ := impl.FromLines(sums)
		impl.Misfit(im, sums)
		if !stays(im.Pix, was, 7) || !stays(sums, want, 9) {
			t.Error("an argument changes", p)
		}
		spoil(one.Pix)
		spoil(sums)
		spoil(im.Pix)
		wantLists(t, "two images", two.Pix, was)
		wantLists(t, "lines behind a spoilt argument", second, want)
		wantImageOf(t, "something was kept", want, two)
	}
	off := roomy([]int64{3, 7, 5, 5, 4, 7}, 9) // refused, and as it was
	impl.FromLines(off)
	if !stays(off, []int64{3, 7, 5, 5, 4, 7}, 9) {
		t.Error("refused sums change")
	}
}
