package tests

import (
	"slices"
	"testing"

	"loop.example/g00050/impl"
)

// kernel is a drawn one with numbers of at most most in size.
func (m *mixer) kernel(most int64) []int64 {
	return m.image(9, 1, most).Pix
}

// loneKernel has one number that is not 0.
func loneKernel(at int, number int64) []int64 {
	list := make([]int64, 9)
	list[at] = number
	return list
}

func TestBlurPlainly(t *testing.T) {
	m := mixer(156)
	for _, size := range sizesOfImages() {
		for _, c := range [][3]int64{{9, 3, 0}, {1000, 1000, 4}, {impl.MaxPix, 1000, 16}, {impl.MaxPix, 7, 6}, {impl.MaxPix / 9000, 1000, 0}, {impl.MaxPix, 1000, 9}} {
			for range 2 {
				im, kernel := m.image(size[0], size[1], c[0]), m.kernel(c[1])
				wantImage(t, []any{size, kernel, c[2]}, impl.Blur(im, kernel, c[2]), plainBlur(im, kernel, c[2]))
			}
		}
	}
	told := map[bool]int{}
	for range 2000 {
		im, kernel, shift := m.image(m.pick(1, 4), m.pick(1, 4), m.pick(1, impl.MaxPix)), m.kernel(m.pick(1, 1000)), m.pick(0, 16)
		got := impl.Blur(im, kernel, shift)
		wantImage(t, []any{im, kernel, shift}, got, plainBlur(im, kernel, shift))
		told[isZeroImage(got)]++
	}
	if told[true] < 200 || told[false] < 200 {
		t.Error("too few of one kind", told)
	}
}

// Each number of the kernel stands for one neighbour.
func TestBlurOfOneNumber(t *testing.T) {
	m := mixer(157)
	for _, size := range [][2]int64{{1, 1}, {4, 3}, {1, 5}, {5, 1}, {2, 2}} {
		im := m.image(size[0], size[1], 1000)
		for at := range 9 {
			a, b := int64(at%3-1), int64(at/3-1)
			want := drawnImage(size[0], size[1], func(x, y int64) int64 {
				pixel, _ := pixelAt(im, x+a, y+b)
				return pixel * 3
			})
			wantImage(t, []any{size, at}, impl.Blur(im, loneKernel(at, 3), 0), want)
		}
		wantImage(t, "as it is", impl.Blur(im, loneKernel(4, 1), 0), im)
		wantImage(t, "nothing", impl.Blur(im, make([]int64, 9), 16), impl.Image{W: size[0], H: size[1], Pix: make([]int64, size[0]*size[1])})
	}
}

func TestBlurByHand(t *testing.T) {
	im := impl.Image{W: 3, H: 3, Pix: []int64{
		1, 2, 3,
		4, 5, 6,
		7, 8, -9}}
	wantImage(t, "sums", impl.Blur(im, slices.Repeat([]int64{1}, 9), 0), impl.Image{W: 3, H: 3, Pix: []int64{
		12, 21, 16,
		27, 27, 15,
		24, 21, 10}})
	wantImage(t, "unlike numbers", impl.Blur(im, []int64{1, 2, 3, 4, 5, 6, 7, 8, 9}, 0), impl.Image{W: 3, H: 3, Pix: []int64{
		5 + 12 + 32 + 45, 4 + 10 + 18 + 28 + 40 + 54, 8 + 15 + 35 + 48,
		2 + 6 + 20 + 30 + 56 + 72, 1 + 4 + 9 + 16 + 25 + 36 + 49 + 64 - 81, 2 + 6 + 20 + 30 + 56 - 72,
		8 + 15 + 35 + 48, 4 + 10 + 18 + 28 + 40 - 54, 5 + 12 + 32 - 45}})
	below := rowImage(-1, -2, -3, -4, -5, -7, -8, -9, 0, 1, 2, 3, 4)
	center := loneKernel(4, 1)
	wantImage(t, "halves rounded down", impl.Blur(below, center, 1), rowImage(-1, -1, -2, -2, -3, -4, -4, -5, 0, 0, 1, 1, 2))
	wantImage(t, "quarters rounded down", impl.Blur(below, center, 2), rowImage(-1, -1, -1, -1, -2, -2, -2, -3, 0, 0, 0, 0, 1))
	wantImage(t, "all of it rounded down", impl.Blur(below, center, 16), rowImage(-1, -1, -1, -1, -1, -1, -1, -1, 0, 0, 0, 0, 0))
	wantImage(t, "turned", impl.Blur(below, loneKernel(4, -1), 1), rowImage(0, 1, 1, 2, 2, 3, 4, 4, 0, -1, -1, -2, -2))
	great := rowImage(-65536, -65537, -65535, 65535, 65536, -131072, -131073)
	wantImage(t, "the greatest shift", impl.Blur(great, center, 16), rowImage(-1, -2, -1, 0, 1, -2, -3))
	// What is rounded is the sum, not its parts.
	wantImage(t, "a sum of halves", impl.Blur(rowImage(1, 1, 1), []int64{0, 0, 0, 1, 0, 1, 0, 0, 0}, 1), rowImage(0, 1, 0))
	wantImage(t, "a sum of halves below 0", impl.Blur(rowImage(-1, -1, -1), []int64{0, 0, 0, 1, 0, 1, 0, 0, 0}, 1), rowImage(-1, -1, -1))
}

func TestBlurAtTheLimitsOfPixels(t *testing.T) {
	const most = impl.MaxPix
	two := []int64{0, 0, 0, 0, 2, 1, 0, 0, 0} // twice the pixel and the one to the right
	for _, c := range []struct {
		kernel []int64
		shift  int64
		pixels []int64
		want   []int64 // nothing where it is refused
	}{
		{loneKernel(4, 1), 0, []int64{most, -most}, []int64{most, -most}},
		{loneKernel(4, -1), 0, []int64{most, -most}, []int64{-most, most}},
		{loneKernel(4, 1000), 0, []int64{1000000, -1000000}, []int64{most, -most}},
		{loneKernel(4, 1000), 0, []int64{1000001, 0}, nil},
		{loneKernel(4, 1000), 0, []int64{0, -1000001}, nil},
		{loneKernel(4, -1000), 0, []int64{0, 1000001}, nil},
		{two, 0, []int64{500000000, 0}, []int64{most, 0}},
		{two, 0, []int64{499999999, 2}, []int64{most, 4}},
		{two, 0, []int64{499999999, 3}, nil},
		{two, 0, []int64{-499999999, -2}, []int64{-most, -4}},
		{two, 0, []int64{-499999999, -3}, nil},
		{two, 1, []int64{most, 0}, []int64{most, 0}},
		{two, 1, []int64{most, 1}, []int64{most, 1}}, // half of what is one past twice the limit is rounded down onto it
		{two, 1, []int64{most, 2}, nil},
		{two, 1, []int64{-most, 0}, []int64{-most, 0}},
		{two, 1, []int64{-most, 1}, []int64{-most, 1}},
		{two, 1, []int64{-most, -1}, nil}, // and below 0 past it
		{two, 1, []int64{1 - most, -2}, []int64{-most, -2}},
		{two, 1, []int64{1 - most, -3}, nil},
		{loneKernel(4, 1000), 10, []int64{most, -most}, []int64{976562500, -976562500}},
		{loneKernel(4, 1000), 9, []int64{most, 0}, nil},
		{loneKernel(4, 1000), 9, []int64{0, -most}, nil},
		{loneKernel(4, 1000), 9, []int64{512000000, -512000000}, []int64{most, -most}},
		{loneKernel(4, 1000), 9, []int64{512000001, 0}, nil},
		{loneKernel(4, 1000), 9, []int64{0, -512000001}, nil},
		{loneKernel(4, 512), 9, []int64{most, -most}, []int64{most, -most}},
		{loneKernel(4, 513), 9, []int64{most, 0}, nil},
		{loneKernel(4, 513), 9, []int64{0, -most}, nil},
	} {
		want := impl.Image{}
		if c.want != nil {
			want = rowImage(c.want...)
		}
		wantImage(t, c, impl.Blur(rowImage(c.pixels...), c.kernel, c.shift), want)
		wantImage(t, c, impl.Blur(rowImage(c.pixels...), c.kernel, c.shift), plainBlur(rowImage(c.pixels...), c.kernel, c.shift))
	}
	for at := range 9 { // one past the limit at each place of the answer
		im := changed(impl.Image{W: 3, H: 3, Pix: make([]int64, 9)}, at, 500000001)
		wantZeroImage(t, at, impl.Blur(im, loneKernel(4, 2), 0))
		wantZeroImage(t, at, impl.Blur(im, loneKernel(4, -2), 0))
	}
	// The greatest sums that there can be.
	full := impl.Image{W: 3, H: 3, Pix: slices.Repeat([]int64{most}, 9)}
	for _, number := range []int64{1000, -1000} {
		kernel := slices.Repeat([]int64{number}, 9)
		for shift := range int64(17) {
			wantImage(t, []any{number, shift}, impl.Blur(full, kernel, shift), plainBlur(full, kernel, shift))
		}
	}
}

func wantBlur(t *testing.T, what any, im impl.Image, kernel []int64, shift int64, right bool) {
	t.Helper()
	defer wantNoPanic(t, what)
	want := impl.Image{}
	if right {
		want = plainBlur(im, kernel, shift)
		if isZeroImage(want) {
			t.Error("tells nothing", what)
		}
	}
	wantImage(t, what, impl.Blur(im, kernel, shift), want)
}

func TestBlurKernels(t *testing.T) {
	m := mixer(158)
	im := m.image(4, 3, 100)
	for _, n := range []int{0, 1, 3, 8, 9, 10, 18, 25, 100000} {
		wantBlur(t, n, im, slices.Repeat([]int64{1}, n), 0, n == 9)
		wantBlur(t, n, im, make([]int64, n), 3, n == 9)
	}
	wantBlur(t, "nil", im, nil, 0, false)
	for at := range 9 {
		for _, number := range append(edges(-1000, 1000), 2000, 1<<32, 1<<32+1, 1<<62, leastInt+1, mostInt-1) {
			kernel := m.kernel(9)
			kernel[at] = number
			wantBlur(t, []any{at, number}, im, kernel, 2, number >= -1000 && number <= 1000)
		}
	}
}

func TestBlurShifts(t *testing.T) {
	m := mixer(159)
	im := m.image(4, 3, 1000000)
	kernel := m.kernel(100)
	for _, shift := range append(edges(0, 16), 2, 3, 8, 15, 16, 17, 18, 31, 32, 63, 64, 65, -2, -16, -64, 1<<32+1, 1<<62, leastInt+1, mostInt-1) {
		wantBlur(t, shift, im, kernel, shift, shift >= 0 && shift <= 16)
		for _, wrong := range wrongImages() {
			wantBlur(t, wrong, wrong, kernel, shift, false)
		}
		wantBlur(t, "and no kernel", im, kernel[:8], shift, false)
	}
}
