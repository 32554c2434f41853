package tests

import (
	"testing"

	"loop.example/g00050/impl"
)

func wantCost(t *testing.T, what any, mask, source, sink impl.Image, link, want int64) {
	t.Helper()
	if got := impl.CutCost(mask, source, sink, link); got != want {
		t.Errorf("%v: cost %d, want %d", what, got, want)
	}
}

func TestCutCostsPlainly(t *testing.T) {
	m := mixer(167)
	for _, size := range sizesOfImages() {
		for i, mask := range m.masks(size[0], size[1]) {
			most := []int64{0, 1, 9, impl.MaxTone}[m.pick(0, 3)]
			source, sink := m.greyImage(size[0], size[1], most), m.greyImage(size[0], size[1], impl.MaxTone)
			for _, link := range []int64{0, 1, 7, impl.MaxTone} {
				wantCost(t, []any{size, i, link}, mask, source, sink, link, plainCost(mask, source, sink, link))
			}
		}
	}
}

func TestCutCostsByHand(t *testing.T) {
	source, sink := signImage("123", "456"), signImage("987", "654")
	for _, c := range []struct {
		what       string
		mask       []string
		link, want int64
	}{
		{"noughts alone cost the source", []string{"...", "..."}, 100, 21},
		{"ones alone cost the sink", []string{"###", "###"}, 100, 39},
		{"one at a corner has two links", []string{"#..", "..."}, 100, 229},
		{"one at a side has three", []string{".#.", "..."}, 100, 327},
		{"the last one", []string{"...", "..#"}, 100, 219},
		{"a row ends", []string{"..#", "..."}, 100, 225},
		{"a column", []string{"#..", "#.."}, 100, 231},
		{"each other one", []string{"#.#", ".#."}, 100, 733},
		{"each other one for nothing", []string{"#.#", ".#."}, 0, 33},
	} {
		wantCost(t, c.what, signImage(c.mask...), source, sink, c.link, c.want)
	}
	most := drawnImage(64, 64, func(_, _ int64) int64 { return impl.MaxTone })
	chess := drawnImage(64, 64, func(x, y int64) int64 { return (x + y) % 2 })
	wantCost(t, "the greatest cost", chess, most, most, impl.MaxTone, impl.MaxTone*(64*64+2*63*64))
	wantCost(t, "one row", rowImage(0, 1, 1, 0), rowImage(1, 2, 3, 4), rowImage(5, 6, 7, 8), 10, 1+6+7+4+20)
	wantCost(t, "one column", upright(rowImage(0, 1, 1, 0)), upright(rowImage(1, 2, 3, 4)), upright(rowImage(5, 6, 7, 8)), 10, 1+6+7+4+20)
	wantCost(t, "one pixel", rowImage(1), rowImage(3), rowImage(impl.MaxTone), impl.MaxTone, impl.MaxTone)
}

// wantNoCut asks both functions; the cost is asked with a mask that fits the source.
func wantNoCut(t *testing.T, what any, source, sink impl.Image, link int64) {
	t.Helper()
	mask := impl.Image{W: source.W, H: source.H, Pix: make([]int64, len(source.Pix))}
	wantCost(t, what, mask, source, sink, link, -1)
	cut, cost := impl.Cut(source, sink, link)
	wantZeroImage(t, what, cut)
	if cost != -1 {
		t.Errorf("%v: cost %d, want -1", what, cost)
	}
}

func TestCutLimits(t *testing.T) {
	mask, source, sink := signImage("#.#", ".##"), signImage("123", "456"), signImage("987", "654")
	for _, wrong := range noMasks() {
		wantCost(t, []any{"mask", wrong}, wrong, source, sink, 1, -1)
	}
	for at := range 6 {
		for _, pixel := range []int64{2, -1, leastInt, mostInt, 1 << 32, 1<<32 + 1} {
			wantCost(t, []any{"mask", at, pixel}, changed(mask, at, pixel), source, sink, 1, -1)
		}
		for _, pixel := range []int64{0, impl.MaxTone} {
			one, two := changed(source, at, pixel), changed(sink, at, pixel)
			wantCost(t, []any{at, pixel}, mask, one, two, 3, plainCost(mask, one, two, 3))
			wantCut(t, []any{at, pixel}, one, two, 3)
		}
		for _, pixel := range []int64{impl.MaxTone + 1, -1, -impl.MaxTone, impl.MaxPix, leastInt, leastInt + 1, mostInt, 1 << 32} {
			wantNoCut(t, []any{"source", at, pixel}, changed(source, at, pixel), sink, 1)
			wantNoCut(t, []any{"sink", at, pixel}, source, changed(sink, at, pixel), 1)
		}
	}
	for _, wrong := range noImagesOf(impl.MaxTone) {
		wantNoCut(t, []any{"source", wrong}, wrong, sink, 1)
		wantNoCut(t, []any{"sink", wrong}, source, wrong, 1)
		wantNoCut(t, []any{"both", wrong}, wrong, wrong, 1)
	}
	for _, link := range []int64{0, 1, impl.MaxTone - 1, impl.MaxTone} {
		wantCost(t, link, mask, source, sink, link, plainCost(mask, source, sink, link))
		wantCut(t, link, source, sink, link)
	}
	for _, link := range []int64{-1, -2, -impl.MaxTone, impl.MaxTone + 1, impl.MaxTone + 2, 1 << 32, 1<<32 + 1, -1 << 32, leastInt, leastInt + 1, mostInt - 1, mostInt} {
		wantNoCut(t, []any{"link", link}, source, sink, link)
		wantCost(t, []any{"link", link}, mask, source, sink, link, -1)
	}
}

func TestCutsOfUnlikeSizes(t *testing.T) {
	mask, source, sink := signImage("#.#", ".##"), signImage("123", "456"), signImage("987", "654")
	for _, size := range [][2]int64{{2, 3}, {6, 1}, {1, 6}, {3, 1}, {3, 3}, {4, 2}, {2, 2}} {
		other := drawnImage(size[0], size[1], func(_, _ int64) int64 { return 1 })
		wantCost(t, size, other, source, sink, 1, -1)
		wantCost(t, size, mask, other, sink, 1, -1)
		wantCost(t, size, mask, source, other, 1, -1)
		wantCost(t, size, mask, other, other, 1, -1)
		wantNoCut(t, size, other, sink, 1)
		wantNoCut(t, size, source, other, 1)
	}
}

// wantCut holds the answer of a small image against every mask: promise 12.
func wantCut(t *testing.T, what any, source, sink impl.Image, link int64) {
	t.Helper()
	want, least := everyCut(source, sink, link)
	wantCutOf(t, what, source, sink, link, want, least)
}

func wantCutOf(t *testing.T, what any, source, sink impl.Image, link int64, want impl.Image, least int64) {
	t.Helper()
	got, cost := impl.Cut(source, sink, link)
	wantImage(t, what, got, want)
	if cost != least || impl.CutCost(got, source, sink, link) != cost {
		t.Errorf("%v: cost %d of a mask of %d, want %d", what, cost, impl.CutCost(got, source, sink, link), least)
	}
}

func TestSmallCutsAgainstEveryMask(t *testing.T) {
	m := mixer(168)
	for _, size := range [][2]int64{{1, 1}, {2, 1}, {1, 2}, {2, 2}, {3, 2}, {2, 3}, {3, 3}, {8, 1}, {1, 8}, {4, 2}} {
		for _, most := range []int64{0, 1, 2, 5, 30, impl.MaxTone} {
			for _, link := range []int64{0, 1, 2, 3, 7, 20, 1000, impl.MaxTone} {
				for range 4 {
					source, sink := m.greyImage(size[0], size[1], most), m.greyImage(size[0], size[1], most)
					wantCut(t, []any{source, sink, link}, source, sink, link)
				}
			}
		}
	}
	for range 40 {
		source, sink, link := m.greyImage(4, 3, 9), m.greyImage(4, 3, 9), m.pick(0, 5)
		wantCut(t, []any{source, sink, link}, source, sink, link)
	}
}

// Every pair of images of four pixels from 0 to 2: ties everywhere.
func TestCutsWithTies(t *testing.T) {
	digits := func(n int64) []int64 { return []int64{n % 3, n / 3 % 3, n / 9 % 3, n / 27} }
	for one := range int64(81) {
		for two := range int64(81) {
			for link := range int64(3) {
				wantCut(t, []any{one, two, link}, impl.Image{W: 2, H: 2, Pix: digits(one)}, impl.Image{W: 2, H: 2, Pix: digits(two)}, link)
				if link == 1 {
					wantCut(t, []any{one, two, link}, rowImage(digits(one)...), rowImage(digits(two)...), link)
					wantCut(t, []any{one, two, link}, upright(rowImage(digits(one)...)), upright(rowImage(digits(two)...)), link)
				}
			}
		}
	}
}

func TestCutsByHand(t *testing.T) {
	for _, c := range []struct {
		what         string
		source, sink []string
		link         int64
		want         []string
		cost         int64
	}{
		{"nothing at all", []string{"000", "000"}, []string{"000", "000"}, 5, []string{"...", "..."}, 0},
		{"like costs everywhere", []string{"333", "333"}, []string{"333", "333"}, 0, []string{"...", "..."}, 18},
		{"like costs and links", []string{"333", "333"}, []string{"333", "333"}, 4, []string{"...", "..."}, 18},
		{"no link: each by itself", []string{"123", "456"}, []string{"213", "364"}, 0, []string{".#.", "#.#"}, 1 + 1 + 3 + 3 + 5 + 4},
		{"source of noughts", []string{"000", "000"}, []string{"123", "456"}, 1, []string{"...", "..."}, 0},
		{"sink of noughts", []string{"123", "456"}, []string{"000", "000"}, 1, []string{"###", "###"}, 0},
		{"sink of noughts, and a source with a gap", []string{"909", "909"}, []string{"000", "000"}, 4, []string{"###", "###"}, 0},
		{"a gap that costs as much to leave out as to take in", []string{"909"}, []string{"080"}, 4, []string{"#.#"}, 8},
		{"a gap that is taken in", []string{"909"}, []string{"070"}, 4, []string{"###"}, 7},
		{"a gap that is left out", []string{"909"}, []string{"090"}, 4, []string{"#.#"}, 8},
		{"one is swallowed", []string{"030"}, []string{"909"}, 2, []string{"..."}, 3},
		{"one stands", []string{"050"}, []string{"909"}, 2, []string{".#."}, 4},
		{"one that may stand does not", []string{"040"}, []string{"909"}, 2, []string{"..."}, 4},
	} {
		source, sink := signImage(c.source...), signImage(c.sink...)
		wantCutOf(t, c.what, source, sink, c.link, signImage(c.want...), c.cost)
		wantCutOf(t, c.what, upright(source), upright(sink), c.link, upright(signImage(c.want...)), c.cost)
	}
}

// Images of 256 pixels and fewer that are narrow enough to be reckoned along their length, each pixel asked whether it may be 0.
func TestNarrowCuts(t *testing.T) {
	m := mixer(169)
	for _, size := range [][2]int64{{1, 64}, {2, 64}, {3, 50}, {4, 64}, {5, 51}, {6, 42}} {
		for _, most := range []int64{1, 3, 40, impl.MaxTone} {
			for _, link := range []int64{0, 1, 2, 15, 600, impl.MaxTone} {
				source, sink := m.greyImage(size[0], size[1], most), m.greyImage(size[0], size[1], most)
				want, least := leastCut(source, sink, link)
				wantCutOf(t, []any{size, most, link}, source, sink, link, want, least)
				wantCutOf(t, []any{size, most, link, "upright"}, upright(source), upright(sink), link, upright(want), least)
			}
		}
	}
}

// The narrow reckoning itself is held against every mask.
func TestNarrowReckoning(t *testing.T) {
	m := mixer(170)
	for range 200 {
		w, h := m.pick(1, 3), m.pick(1, 3)
		source, sink, link := m.greyImage(w, h, 4), m.greyImage(w, h, 4), m.pick(0, 4)
		mask, least := leastCut(source, sink, link)
		want, wantLeast := everyCut(source, sink, link)
		wantImage(t, []any{source, sink, link}, mask, want)
		if least != wantLeast {
			t.Errorf("%v %v %d: %d, want %d", source, sink, link, least, wantLeast)
		}
	}
}

// Squares of 16 by 16: the least cost is reckoned along the rows, and ones and noughts are tried at some pixels.
func TestSquareCuts(t *testing.T) {
	m := mixer(171)
	for _, c := range [][2]int64{{1, 1}, {9, 2}, {impl.MaxTone, 700}} {
		source, sink, link := m.greyImage(16, 16, c[0]), m.greyImage(16, 16, c[0]), c[1]
		var mask impl.Image
		var cost int64
		wantSoon(t, c, func() { mask, cost = impl.Cut(source, sink, link) })
		if !impl.ImageOk(mask) || mask.W != 16 || mask.H != 16 {
			t.Fatal(c, mask)
		}
		if least := leastCost(source, sink, link, -1); cost != least || plainCost(mask, source, sink, link) != cost {
			t.Errorf("%v: cost %d of a mask of %d, want %d", c, cost, plainCost(mask, source, sink, link), least)
		}
		for range 3 {
			place := m.pick(0, 255)
			may := leastCost(source, sink, link, place) == cost
			if may != (mask.Pix[place] == 0) {
				t.Errorf("%v: %d at %d, may be 0: %v", c, mask.Pix[place], place, may)
			}
		}
	}
}

// Much to lead through the whole image, by narrow ways and wide ones.
func TestCutsInGoodTime(t *testing.T) {
	m := mixer(172)
	wantSoon(t, "great cuts", func() {
		for _, size := range [][2]int64{{16, 16}, {4, 64}, {64, 4}, {32, 8}} {
			for _, link := range []int64{0, 1, 100, 2000, impl.MaxTone} {
				left := drawnImage(size[0], size[1], func(x, _ int64) int64 { return impl.MaxTone * oneIf(x < size[0]/2) })
				right := drawnImage(size[0], size[1], func(x, y int64) int64 { return (impl.MaxTone - x*y) * oneIf(x >= size[0]/2) })
				sources := []impl.Image{left, m.greyImage(size[0], size[1], impl.MaxTone), drawnImage(size[0], size[1], func(x, y int64) int64 { return impl.MaxTone * ((x + y) % 2) })}
				for i, source := range sources {
					mask, cost := impl.Cut(source, right, link)
					if plainCost(mask, source, right, link) != cost || cost < 0 {
						t.Error(size, link, i, cost)
					}
				}
			}
		}
	})
}

func TestCutsOfManyPixels(t *testing.T) {
	m := mixer(173)
	for _, size := range [][2]int64{{16, 16}, {4, 64}, {64, 4}, {8, 32}, {32, 8}, {5, 51}, {15, 17}, {64, 1}, {1, 64}} {
		source, sink := m.greyImage(size[0], size[1], 9), m.greyImage(size[0], size[1], 9)
		if mask, cost := impl.Cut(source, sink, 2); mask.W != size[0] || mask.H != size[1] || cost < 0 {
			t.Error(size, mask, cost)
		}
	}
	for _, size := range [][2]int64{{17, 16}, {16, 17}, {64, 5}, {5, 64}, {52, 5}, {37, 7}, {43, 6}, {64, 64}} { // 257 is a prime: 258 pixels are the least that an image past 256 can have
		source, sink := m.greyImage(size[0], size[1], 9), m.greyImage(size[0], size[1], 9)
		mask, cost := impl.Cut(source, sink, 2)
		wantZeroImage(t, size, mask)
		if cost != -1 {
			t.Error(size, cost)
		}
		// The cost of a mask has no such limit.
		ones := m.mask(size[0], size[1], 5)
		wantCost(t, size, ones, source, sink, 2, plainCost(ones, source, sink, 2))
	}
}
