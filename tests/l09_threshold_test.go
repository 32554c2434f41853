package tests

import (
	"slices"
	"testing"

	"loop.example/g00050/impl"
)

func wantHistogram(t *testing.T, what any, im impl.Image) {
	t.Helper()
	got := impl.Histogram(im)
	if len(got) != 256 {
		t.Fatalf("%v: %d numbers", what, len(got))
	}
	for tone, count := range got {
		want := int64(0)
		for _, pixel := range im.Pix {
			want += oneIf(pixel == int64(tone))
		}
		if count != want {
			t.Fatalf("%v: %d pixels of tone %d, want %d", what, count, tone, want)
		}
	}
}

func TestHistograms(t *testing.T) {
	m := mixer(162)
	for _, size := range sizesOfImages() {
		for _, most := range []int64{0, 1, 9, 254, 255} {
			wantHistogram(t, size, m.greyImage(size[0], size[1], most))
		}
		wantHistogram(t, size, drawnImage(size[0], size[1], func(_, _ int64) int64 { return 255 }))
	}
	for tone := range int64(256) {
		wantHistogram(t, tone, rowImage(tone, 0, 255, tone))
	}
}

func TestHistogramsOfNoGreyImages(t *testing.T) {
	for _, im := range noImagesOf(255) {
		if got := impl.Histogram(im); len(got) != 0 {
			t.Errorf("%v: %s", im, brief(got))
		}
	}
	for _, pixel := range []int64{-1, 256, -255, 1 << 8, 1<<32 + 7, leastInt, leastInt + 1, mostInt - 1, mostInt} {
		for _, size := range sizesOfImages() {
			im := drawnImage(size[0], size[1], func(_, _ int64) int64 { return 7 })
			for _, at := range []int{0, len(im.Pix) / 2, len(im.Pix) - 1} {
				if got := impl.Histogram(changed(im, at, pixel)); len(got) != 0 {
					t.Errorf("%d at %d of %v: %s", pixel, at, size, brief(got))
				}
			}
		}
	}
}

// wantThreshold holds each of the 255 thresholds against the one that is told: promise 12.
func wantThreshold(t *testing.T, what any, hist []int64) {
	t.Helper()
	got, ok := impl.Threshold(hist)
	if got < 0 || got > 254 || !ok && got != 0 {
		t.Fatalf("%v: %d %v", what, got, ok)
	}
	own, good := worthAt(hist, int(got))
	if ok && !good {
		t.Fatalf("%v: %d has an empty side", what, got)
	}
	for other := range 255 {
		worth, good := worthAt(hist, other)
		if !good {
			continue
		}
		if !ok {
			t.Fatalf("%v: none, but %d is good", what, other)
		}
		if more := worth.Cmp(own); more > 0 || more == 0 && int64(other) < got {
			t.Fatalf("%v: %d with worth %v, but %d has %v", what, got, own, other, worth)
		}
	}
}

func TestThresholdsHaveMostWorth(t *testing.T) {
	m := mixer(163)
	for _, count := range []int64{1, 2, 3, 10, 100, 4095, 4096} {
		for _, kinds := range []int64{1, 2, 3, 4, 7, 30, 256} {
			for i := range 4 {
				hist := m.hist(kinds, count)
				wantThreshold(t, []any{count, kinds, i, hist}, hist)
			}
		}
	}
	wantThreshold(t, "even", slices.Repeat([]int64{16}, 256))
	wantThreshold(t, "even but one", slices.Concat(slices.Repeat([]int64{16}, 255), []int64{15}))
	for _, size := range [][2]int64{{1, 2}, {9, 4}, {64, 64}} {
		hist := impl.Histogram(m.greyImage(size[0], size[1], 255))
		wantThreshold(t, size, hist)
	}
}

// All histograms of three tones with few pixels.
func TestThresholdsOfFewPixels(t *testing.T) {
	for a := range int64(4) {
		for b := range int64(4) {
			for c := range int64(4) {
				wantThreshold(t, []int64{a, b, c}, histOf(0, a, 1, b, 255, c))
				wantThreshold(t, []int64{a, b, c}, histOf(100, a, 103, b, 104, c))
			}
		}
	}
}

func wantThresholdAt(t *testing.T, what any, hist []int64, want int64, wantOk bool) {
	t.Helper()
	if got, ok := impl.Threshold(hist); got != want || ok != wantOk {
		t.Errorf("%v: %d %v, want %d %v", what, got, ok, want, wantOk)
	}
}

func TestThresholdsByHand(t *testing.T) {
	for tone := range int64(256) {
		wantThresholdAt(t, []any{"one tone", tone}, histOf(tone, 1), 0, false)
		wantThresholdAt(t, []any{"one tone at its most", tone}, histOf(tone, 4096), 0, false)
		for other := range tone {
			wantThresholdAt(t, []any{"two tones", other, tone}, histOf(other, 3, tone, 2), other, true)
		}
	}
	wantThresholdAt(t, "no pixel", make([]int64, 256), 0, false)
	wantThresholdAt(t, "both ends", histOf(0, 2048, 255, 2048), 0, true)
	wantThresholdAt(t, "one against all", histOf(0, 1, 255, 4095), 0, true)
	wantThresholdAt(t, "all against one", histOf(254, 4095, 255, 1), 254, true)
	wantThresholdAt(t, "near the upper one", histOf(10, 5, 18, 5, 20, 5), 10, true)
	wantThresholdAt(t, "near the lower one", histOf(10, 5, 12, 5, 20, 5), 12, true)
}

// Of like worths the least threshold is told, also where they are unlike fractions past one word's crosswise products.
func TestThresholdsOfLikeWorths(t *testing.T) {
	for _, n := range []int64{1, 2, 77, 1024} {
		wantThresholdAt(t, []any{"even on both sides", n}, histOf(0, n, 10, 2*n, 20, n), 0, true)
		wantThresholdAt(t, []any{"even at the end", n}, histOf(201, n, 228, n, 255, n), 201, true)
	}
	for _, c := range [][5]int64{{207, 1150, 1800, 170, 255}, {96, 1120, 608, 171, 252}, {19, 2622, 575, 210, 252}, {725, 928, 1922, 124, 224}, {51, 1475, 378, 168, 236}, {186, 189, 651, 140, 252}, {98, 46, 4, 60, 235}, {1053, 143, 253, 115, 250},
		{1462, 618, 1677, 52, 103}, {1127, 493, 1955, 45, 87}, {375, 385, 1463, 95, 170}, {1715, 1501, 375, 30, 79}, {1517, 1517, 333, 27, 72}} { // the last five are unlike as floats
		hist := histOf(0, c[0], c[3], c[1], c[4], c[2])
		low, _ := worthAt(hist, 0)
		high, _ := worthAt(hist, int(c[3]))
		if low.Cmp(high) != 0 {
			t.Fatalf("%v: %v and %v are not alike", c, low, high)
		}
		wantThresholdAt(t, c, hist, 0, true)
		// A pixel more or less at one end, and they are not.
		wantThreshold(t, c, histOf(0, c[0], c[3], c[1], c[4], c[2]-1))
		wantThreshold(t, c, histOf(0, c[0]-1, c[3], c[1], c[4], c[2]))
	}
}

// Worths that are less than one apart, the greater one behind.
func TestThresholdsOfNearWorths(t *testing.T) {
	for _, c := range [][3]int64{{9, 2, 10}, {10, 2, 11}, {13, 2, 14}, {14, 3, 15}, {16, 2, 17}} {
		wantThresholdAt(t, c, histOf(0, c[0], 1, c[1], 2, c[2]), 1, true)
		wantThresholdAt(t, c, histOf(253, c[0], 254, c[1], 255, c[2]), 254, true)
		wantThresholdAt(t, c, histOf(0, c[2], 1, c[1], 2, c[0]), 0, true)
		wantThreshold(t, c, histOf(0, c[0], 1, c[1], 2, c[2]))
	}
}

func TestThresholdLimits(t *testing.T) {
	wantThresholdAt(t, "together 4096", histOf(3, 4095, 9, 1), 3, true)
	wantThresholdAt(t, "together 4097", histOf(3, 4096, 9, 1), 0, false)
	wantThresholdAt(t, "together 4097", histOf(3, 2048, 9, 2049), 0, false)
	wantThresholdAt(t, "together 4096, spread", slices.Repeat([]int64{16}, 256), 127, true)
	wantThresholdAt(t, "together 4097, spread", slices.Concat(slices.Repeat([]int64{16}, 255), []int64{17}), 0, false)
	for _, n := range []int64{-1, -2, -4096, 4097, 4098, 1 << 32, 1<<32 + 3, -1 << 32, leastInt, leastInt + 1, mostInt - 1, mostInt} {
		for _, at := range []int64{0, 5, 200, 255} {
			hist := histOf(3, 20, 9, 20)
			hist[at] = n
			wantThresholdAt(t, []any{n, at}, hist, 0, false)
		}
	}
	// Sums that come round to a small number.
	wantThresholdAt(t, "round once", histOf(3, leastInt, 9, leastInt), 0, false)
	wantThresholdAt(t, "round once", histOf(3, mostInt, 9, mostInt, 10, 10), 0, false)
	wantThresholdAt(t, "round by quarters", histOf(3, 1<<62, 9, 1<<62, 10, 1<<62, 11, 1<<62), 0, false)
	wantThresholdAt(t, "one below 0 beside many", histOf(3, -1, 9, 4096, 10, 1), 0, false)
	for _, n := range []int{0, 1, 2, 128, 254, 255, 257, 258, 512} {
		hist := slices.Repeat([]int64{1}, n)
		wantThresholdAt(t, n, hist, 0, false)
	}
	wantThresholdAt(t, "nil", nil, 0, false)
	wantThresholdAt(t, "a piece", histOf(3, 1, 9, 1)[:255], 0, false)
	wantThresholdAt(t, "a nought more", append(histOf(3, 1, 9, 1), 0), 0, false)
}
