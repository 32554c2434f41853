package tests

import (
	"fmt"
	"slices"
	"testing"

	"loop.example/g00050/impl"
)

// filterAnswers are what all functions of the chapter make of one mask, which is an image too.
func filterAnswers(mask impl.Image, brush []impl.Spot2, kernel []int64) [][]int64 {
	list := [][]int64{impl.Dilate(mask, brush).Pix, impl.Erode(mask, brush).Pix, impl.Dilate(mask, []impl.Spot2{{}}).Pix, impl.Erode(mask, nil).Pix,
		impl.Distance(mask).Pix, impl.Label(mask).Pix, impl.Slope(mask).Pix, impl.Blur(mask, kernel, 2).Pix, impl.Blur(mask, loneKernel(4, 1), 0).Pix}
	for r := range int64(4) {
		list = append(list, impl.Median(mask, r).Pix)
	}
	return list
}

func TestFiltersAreNewMemory(t *testing.T) {
	m := mixer(160)
	for _, size := range [][2]int64{{1, 1}, {5, 4}, {1, 6}, {6, 1}} {
		for i, was := range m.masks(size[0], size[1]) {
			wasBrush, wasKernel := m.brush(5, 2), m.kernel(9)
			mark := impl.Spot2{X: 9, Y: -9}
			mask := impl.Image{W: was.W, H: was.H, Pix: roomy(was.Pix, 7)}
			brush, kernel := roomy(wasBrush, mark), roomy(wasKernel, 8)
			impl.BrushOk(brush)
			answers, again := filterAnswers(mask, brush, kernel), filterAnswers(mask, brush, kernel)
			if !stays(mask.Pix, was.Pix, 7) || !stays(brush, wasBrush, mark) || !stays(kernel, wasKernel, 8) {
				t.Error("an argument changes", size, i)
			}
			want := fmt.Sprint(again)
			for _, list := range append(answers, mask.Pix, kernel) {
				if len(list) == 0 {
					t.Error("no answer", size, i)
				}
				spoil(list)
			}
			fillWith(brush, mark)
			if got := fmt.Sprint(again); got != want {
				t.Errorf("shared memory: %s, was %s", got, want)
			}
			for at := range again {
				spoil(again[at])
				for _, later := range again[at+1:] {
					if slices.Contains(later, -12345) {
						t.Error("two answers are one", at)
					}
				}
			}
		}
	}
}

// What is refused is as it was, and so is what lies behind it.
func TestRefusedFiltersLeaveArguments(t *testing.T) {
	mark := impl.Spot2{X: 9, Y: -9}
	wrong, great := roomy([]int64{0, 2, 1, 0}, 7), roomy([]int64{-impl.MaxPix, impl.MaxPix, 0, -impl.MaxPix}, 7)
	kernel, twice := roomy(slices.Repeat([]int64{1000}, 9), 8), roomy([]impl.Spot2{{X: 1}, {X: 2}, {X: 1}}, mark)
	mask, im := impl.Image{W: 2, H: 2, Pix: wrong}, impl.Image{W: 2, H: 2, Pix: great}
	for _, got := range []impl.Image{impl.Dilate(mask, twice[:2]), impl.Erode(mask, twice[:2]), impl.Distance(mask), impl.Label(mask), impl.Median(im, 4), impl.Slope(im),
		impl.Blur(im, kernel, 0), impl.Blur(im, kernel, 17), impl.Dilate(rowImage(1), twice), impl.Erode(rowImage(1), twice)} {
		wantZeroImage(t, "refused", got)
	}
	if !stays(wrong, []int64{0, 2, 1, 0}, 7) || !stays(great, []int64{-impl.MaxPix, impl.MaxPix, 0, -impl.MaxPix}, 7) || !stays(kernel, slices.Repeat([]int64{1000}, 9), 8) || !stays(twice, []impl.Spot2{{X: 1}, {X: 2}, {X: 1}}, mark) {
		t.Error("an argument changes", wrong, great, kernel, twice)
	}
	// What lies behind a list's length is not read: a ninth number, a fourth pixel, an offset that is none.
	wantZeroImage(t, "eight numbers", impl.Blur(rowImage(1), kernel[:8], 0))
	wantZeroImage(t, "three pixels", impl.Median(impl.Image{W: 2, H: 2, Pix: great[:3]}, 0))
	if !impl.BrushOk(twice[:2]) {
		t.Error("what lies behind a brush is read")
	}
}

func TestFiltersNeverPanic(t *testing.T) {
	m := mixer(161)
	wild := []int64{leastInt, leastInt + 1, -1 << 32, -impl.MaxPix - 1, -impl.MaxPix, -1001, -1000, -6, -5, -2, -1, 0, 0, 1, 1, 2, 3, 4, 5, 6, 16, 17, 64, 65, 1000, 1001, impl.MaxPix, impl.MaxPix + 1, 1 << 32, 1 << 62, mostInt - 1, mostInt}
	pick := func() int64 { return wild[m.pick(0, int64(len(wild)-1))] }
	list := func(n int64) []int64 {
		var out []int64
		for range n {
			out = append(out, pick())
		}
		return out
	}
	for range 20000 {
		im := impl.Image{W: pick(), H: pick(), Pix: list(m.pick(0, 9))}
		switch m.pick(0, 3) {
		case 0:
			im = m.mask(m.pick(1, 4), m.pick(1, 4), 5)
		case 1:
			im = m.image(m.pick(1, 4), m.pick(1, 4), impl.MaxPix)
		}
		var brush []impl.Spot2
		for range m.pick(0, 4) {
			brush = append(brush, impl.Spot2{X: pick(), Y: pick()})
		}
		if m.pick(0, 1) == 1 {
			brush = m.brush(int(m.pick(0, 26)), m.pick(3, 6))
		}
		kernel := list(m.pick(8, 10))
		if m.pick(0, 1) == 1 {
			kernel = m.kernel(1000)
		}
		askFilters(t, im, brush, kernel, pick())
	}
	askFilters(t, impl.Image{}, nil, nil, 0)
}

// askFilters wants each answer to be a right image of the same size, or the zero image.
func askFilters(t *testing.T, im impl.Image, brush []impl.Spot2, kernel []int64, n int64) {
	defer wantNoPanic(t, []any{im, brush, kernel, n})
	impl.BrushOk(brush)
	for i, got := range []impl.Image{impl.Dilate(im, brush), impl.Erode(im, brush), impl.Distance(im), impl.Label(im), impl.Median(im, n), impl.Slope(im), impl.Blur(im, kernel, n)} {
		if !isZeroImage(got) && (!impl.ImageOk(got) || got.W != im.W || got.H != im.H) {
			t.Error(i, im, brush, kernel, n, got)
		}
	}
}
