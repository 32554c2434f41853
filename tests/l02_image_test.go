package tests

import (
	"slices"
	"testing"

	"loop.example/g00050/impl"
)

func TestPaintIsDensity(t *testing.T) {
	m := mixer(30)
	for _, size := range [][2]int64{{1, 1}, {1, 64}, {64, 1}, {64, 64}, {7, 5}, {5, 7}} {
		for _, n := range []int{0, 1, 9, 64} {
			list := m.shapes(n)
			wantPainting(t, impl.Paint(list, size[0], size[1]), list, size[0], size[1])
		}
	}
}

func wantPainting(t *testing.T, im impl.Image, shapes []impl.Shape, w, h int64) {
	t.Helper()
	if im.W != w || im.H != h || int64(len(im.Pix)) != w*h || !impl.ImageOk(im) {
		t.Fatalf("%d x %d: %d x %d with %d pixels", w, h, im.W, im.H, len(im.Pix))
	}
	for y := range h {
		for x := range w {
			got := im.Pix[y*w+x]
			if got != impl.Density(shapes, x, y) || got != densityOf(shapes, x, y) {
				t.Fatalf("pixel %d, %d of %d x %d: %d", x, y, w, h, got)
			}
		}
	}
}

func TestPaintSides(t *testing.T) {
	list := []impl.Shape{{Kind: impl.ShBox, A: 1000, B: 1000, Value: 5}}
	for _, side := range []int64{leastInt, leastInt + 1, -1 << 32, -65, -64, -1, 0, 1, 2, 63, 64, 65, 66, 1 << 32, 1<<62 + 1, mostInt - 1, mostInt} {
		for _, other := range []int64{1, 64, 0, -1, 65, leastInt, mostInt} {
			right := side >= 1 && side <= 64 && other >= 1 && other <= 64
			for _, im := range []impl.Image{impl.Paint(list, side, other), impl.Paint(list, other, side)} {
				if isZeroImage(im) == right {
					t.Errorf("%d and %d: %d x %d", side, other, im.W, im.H)
				}
			}
		}
	}
}

func TestPaintRefusesShapes(t *testing.T) {
	point := impl.Shape{Kind: impl.ShBox, Value: 1000}
	full := slices.Repeat([]impl.Shape{point}, 64)
	if im := impl.Paint(full, 2, 1); !sameImage(im, impl.Image{W: 2, H: 1, Pix: []int64{64000, 0}}) {
		t.Error("64 shapes", im)
	}
	if im := impl.Paint(append(slices.Clone(full), point), 2, 1); !isZeroImage(im) {
		t.Error("65 shapes", im)
	}
	for _, wrong := range wrongShapes() {
		for _, i := range []int{0, 31, 63} {
			list := slices.Clone(full)
			list[i] = wrong
			if im := impl.Paint(list, 2, 1); !isZeroImage(im) {
				t.Errorf("%+v as number %d: %v", wrong, i, im)
			}
		}
	}
	if im := impl.Paint(nil, 2, 2); !sameImage(im, impl.Image{W: 2, H: 2, Pix: make([]int64, 4)}) {
		t.Error("no shapes", im)
	}
}

// Promise 3, its first half.
func TestPaintOfTwoLists(t *testing.T) {
	m := mixer(31)
	for range 60 {
		n := int(m.pick(0, 64))
		list, cut := m.shapes(n), int(m.pick(0, int64(n)))
		w, h := m.pick(1, 64), m.pick(1, 64)
		whole := impl.Paint(list, w, h)
		parts := impl.AddImages(impl.Paint(list[:cut], w, h), impl.Paint(list[cut:], w, h))
		if isZeroImage(whole) || !sameImage(whole, parts) {
			t.Fatalf("%d shapes, cut at %d, %d x %d", n, cut, w, h)
		}
	}
}

// Promise 3: no order of the shapes shows.
func TestPaintInAnyOrder(t *testing.T) {
	m := mixer(32)
	for range 60 {
		list := m.shapes(int(m.pick(2, 64)))
		w, h := m.pick(1, 64), m.pick(1, 64)
		want := impl.Paint(list, w, h)
		for i := range list {
			j := int(m.pick(0, int64(i)))
			list[i], list[j] = list[j], list[i]
		}
		if isZeroImage(want) || !sameImage(impl.Paint(list, w, h), want) {
			t.Fatal(list)
		}
		slices.Reverse(list)
		if !sameImage(impl.Paint(list, w, h), want) {
			t.Fatal("turned round", list)
		}
	}
}

// Promise 3, its second half.
func TestWeighOfASum(t *testing.T) {
	m := mixer(33)
	for range 200 {
		w, h := m.pick(1, 64), m.pick(1, 64)
		a, b := m.image(w, h, impl.MaxPix/2), m.image(w, h, impl.MaxPix/2)
		n, x, y := impl.Weigh(impl.AddImages(a, b))
		an, ax, ay := impl.Weigh(a)
		bn, bx, by := impl.Weigh(b)
		if n != an+bn || x != ax+bx || y != ay+by {
			t.Fatal(w, h, n, x, y)
		}
		if wn, wx, wy := weightOf(a); an != wn || ax != wx || ay != wy {
			t.Fatal(w, h, an, ax, ay)
		}
	}
}

// weightOf walks columns and rows, as the document tells it.
func weightOf(im impl.Image) (n, byX, byY int64) {
	for x := range im.W {
		for y := range im.H {
			pixel := im.Pix[y*im.W+x]
			n, byX, byY = n+pixel, byX+x*pixel, byY+y*pixel
		}
	}
	return n, byX, byY
}

func TestWeighAtTheLimits(t *testing.T) {
	for _, pixel := range []int64{impl.MaxPix, -impl.MaxPix} {
		im := impl.Image{W: 64, H: 64, Pix: slices.Repeat([]int64{pixel}, 4096)}
		if n, x, y := impl.Weigh(im); n != 4096*pixel || x != 64*2016*pixel || y != 64*2016*pixel {
			t.Error(pixel, n, x, y)
		}
	}
	if n, x, y := impl.Weigh(impl.Image{W: 3, H: 2, Pix: []int64{0, 0, 0, 0, 0, 9}}); n != 9 || x != 18 || y != 9 {
		t.Error(n, x, y)
	}
	if n, x, y := impl.Weigh(impl.Image{W: 1, H: 1, Pix: []int64{-4}}); n != -4 || x != 0 || y != 0 {
		t.Error(n, x, y)
	}
}

// wrongImages are not right, each for one reason alone where that can be.
func wrongImages() []impl.Image {
	some := func(n int) []int64 { return slices.Repeat([]int64{1}, n) }
	list := []impl.Image{
		{},
		{W: 1, H: 1},
		{W: 2, H: 2, Pix: some(3)},
		{W: 2, H: 2, Pix: some(5)},
		{W: 4, H: 2, Pix: some(4)},
		{W: 65, H: 1, Pix: some(65)},
		{W: 1, H: 65, Pix: some(65)},
		{W: 0, H: 4},
		{W: 4, H: 0},
		{W: 0, H: 0, Pix: some(1)},
		{W: -2, H: -3, Pix: some(6)},
		{W: -1, H: -1, Pix: some(1)},
		{W: -1, H: 1, Pix: some(1)},
		{W: 1 << 32, H: 1 << 32},
		{W: 1<<32 + 1, H: 1<<32 - 1, Pix: some(1)},
		{W: 1 << 62, H: 4},
		{W: 1<<62 + 1, H: 4, Pix: some(4)},
		{W: 1 << 61, H: 8},
		{W: 8, H: 1 << 61},
		{W: 2, H: 1<<63 - 1, Pix: some(2)},
		{W: leastInt, H: 2},
		{W: 2, H: leastInt},
		{W: leastInt, H: leastInt},
		{W: mostInt, H: mostInt, Pix: some(1)},
		{W: leastInt + 1, H: -1, Pix: some(2)},
	}
	for _, pixel := range []int64{impl.MaxPix + 1, -impl.MaxPix - 1, leastInt, leastInt + 1, mostInt} {
		list = append(list, impl.Image{W: 1, H: 1, Pix: []int64{pixel}},
			impl.Image{W: 2, H: 2, Pix: []int64{pixel, 0, 0, 0}},
			impl.Image{W: 2, H: 2, Pix: []int64{0, 0, 0, pixel}})
	}
	return list
}

func TestWrongImages(t *testing.T) {
	one := impl.Image{W: 1, H: 1, Pix: []int64{0}}
	for _, im := range wrongImages() {
		askWrongImage(t, im, one)
		other := impl.Image{W: im.W, H: im.H, Pix: make([]int64, len(im.Pix))}
		askWrongImage(t, im, other)
	}
}

func askWrongImage(t *testing.T, im, other impl.Image) {
	defer wantNoPanic(t, im)
	if impl.ImageOk(im) {
		t.Error("right", im)
	}
	if n, x, y := impl.Weigh(im); n != 0 || x != 0 || y != 0 {
		t.Error("weight", im, n, x, y)
	}
	for _, sum := range []impl.Image{impl.AddImages(im, other), impl.AddImages(other, im), impl.AddImages(im, im)} {
		if !isZeroImage(sum) {
			t.Error("sum", im, other, sum)
		}
	}
}

func TestRightImages(t *testing.T) {
	m := mixer(34)
	for _, size := range [][2]int64{{1, 1}, {64, 1}, {1, 64}, {64, 64}, {3, 2}} {
		if im := m.image(size[0], size[1], impl.MaxPix); !impl.ImageOk(im) {
			t.Error(size)
		}
	}
	for _, pixel := range []int64{impl.MaxPix, impl.MaxPix - 1, -impl.MaxPix, -impl.MaxPix + 1, 0} {
		for i := range 4 {
			im := impl.Image{W: 2, H: 2, Pix: make([]int64, 4)}
			im.Pix[i] = pixel
			if !impl.ImageOk(im) {
				t.Error(im)
			}
		}
	}
}

func TestAddImages(t *testing.T) {
	m := mixer(35)
	for range 100 {
		w, h := m.pick(1, 64), m.pick(1, 64)
		a, b := m.image(w, h, impl.MaxPix/2), m.image(w, h, impl.MaxPix/2)
		want := impl.Image{W: w, H: h, Pix: make([]int64, w*h)}
		for i := range want.Pix {
			want.Pix[i] = a.Pix[i] + b.Pix[i]
		}
		if !sameImage(impl.AddImages(a, b), want) || !sameImage(impl.AddImages(b, a), want) {
			t.Fatal(w, h)
		}
	}
}

func TestAddImagesOfUnlikeSizes(t *testing.T) {
	some := make([]int64, 12)
	for _, c := range [][4]int64{{3, 4, 4, 3}, {2, 6, 6, 2}, {12, 1, 1, 12}, {3, 4, 2, 6}} {
		a, b := impl.Image{W: c[0], H: c[1], Pix: some}, impl.Image{W: c[2], H: c[3], Pix: some}
		if sum := impl.AddImages(a, b); !isZeroImage(sum) {
			t.Error(c, sum)
		}
	}
	a := impl.Image{W: 2, H: 1, Pix: make([]int64, 2)}
	for _, b := range []impl.Image{{W: 2, H: 2, Pix: make([]int64, 4)}, {W: 3, H: 1, Pix: make([]int64, 3)}} {
		if !isZeroImage(impl.AddImages(a, b)) || !isZeroImage(impl.AddImages(b, a)) {
			t.Error(b)
		}
	}
}

func TestSumsAtTheLimits(t *testing.T) {
	for _, c := range []struct {
		a, b  int64
		right bool
	}{
		{impl.MaxPix, 0, true}, {impl.MaxPix, 1, false}, {impl.MaxPix - 1, 1, true}, {impl.MaxPix, impl.MaxPix, false},
		{-impl.MaxPix, 0, true}, {-impl.MaxPix, -1, false}, {-impl.MaxPix + 1, -1, true}, {-impl.MaxPix, -impl.MaxPix, false},
		{impl.MaxPix, -impl.MaxPix, true}, {500000000, 500000000, true}, {500000001, 500000000, false}, {-500000001, -500000000, false},
	} {
		for i := range 6 {
			a, b := impl.Image{W: 3, H: 2, Pix: make([]int64, 6)}, impl.Image{W: 3, H: 2, Pix: make([]int64, 6)}
			want := impl.Image{W: 3, H: 2, Pix: make([]int64, 6)}
			a.Pix[i], b.Pix[i], want.Pix[i] = c.a, c.b, c.a+c.b
			if !c.right {
				want = impl.Image{}
			}
			if sum := impl.AddImages(a, b); !sameImage(sum, want) || sum.W != want.W {
				t.Error(c, i, sum)
			}
		}
	}
}

func TestPhantomsLeaveArguments(t *testing.T) {
	m := mixer(36)
	mark := impl.Shape{Kind: 9, Value: 77}
	was := m.shapes(12)
	list := roomy(was, mark)
	impl.Density(list, 3, 3)
	first, second := impl.Paint(list, 8, 8), impl.Paint(list, 8, 8)
	if !stays(list, was, mark) {
		t.Error("shapes")
	}
	a, b := m.image(8, 8, 1000), m.image(8, 8, 1000)
	wasA, wasB := slices.Clone(a.Pix), slices.Clone(b.Pix)
	a.Pix, b.Pix = roomy(wasA, 5), roomy(wasB, 6)
	impl.ImageOk(a)
	impl.Weigh(a)
	sum := impl.AddImages(a, b)
	if !stays(a.Pix, wasA, 5) || !stays(b.Pix, wasB, 6) {
		t.Error("pixels")
	}
	wasSum, wasSecond := slices.Clone(sum.Pix), slices.Clone(second.Pix)
	spoil(first.Pix)
	spoil(a.Pix)
	spoil(b.Pix)
	if !slices.Equal(sum.Pix, wasSum) || !slices.Equal(second.Pix, wasSecond) {
		t.Error("shared memory")
	}
	spoil(sum.Pix)
	spoil(a.Pix)
	again := impl.Paint(was, 8, 8)
	if !slices.Equal(again.Pix, wasSecond) {
		t.Error("something was kept")
	}
}

// spoil writes over a list and over the room behind it.
func spoil(list []int64) {
	list = list[:cap(list)]
	for i := range list {
		list[i] = -12345
	}
}

// TestSharedLists hands one list in twice.
func TestSharedLists(t *testing.T) {
	m := mixer(37)
	a := m.image(5, 4, 1000)
	was := slices.Clone(a.Pix)
	sum := impl.AddImages(a, a)
	if !slices.Equal(a.Pix, was) {
		t.Error("the argument changed")
	}
	for i := range was {
		if sum.Pix[i] != 2*was[i] {
			t.Fatal(i, sum)
		}
	}
}
