package tests

import (
	"slices"
	"testing"

	"loop.example/g00050/impl"
)

// foldOf is the document's sum, each product by itself brought to a residue.
func foldOf(im, coil impl.Image) impl.Image {
	one, two := residuesOf(im), residuesOf(coil)
	out := impl.Image{W: im.W, H: im.H / 2}
	for y := range im.H / 2 {
		for x := range im.W {
			near, far := y*im.W+x, (y+im.H/2)*im.W+x
			out.Pix = append(out.Pix, (one.Pix[near]*two.Pix[near]+one.Pix[far]*two.Pix[far])%prime)
		}
	}
	return out
}

// edgy is a right image whose pixels are at and near the ends of their range, and near multiples of the prime.
func (m *mixer) edgy(w, h int64) impl.Image {
	list := []int64{-impl.MaxPix, -impl.MaxPix + 1, -12290, -12289, -12288, -1, 0, 1, 12288, 12289, 12290, impl.MaxPix - 1, impl.MaxPix}
	im := impl.Image{W: w, H: h, Pix: make([]int64, w*h)}
	for i := range im.Pix {
		im.Pix[i] = list[m.pick(0, int64(len(list)-1))]
	}
	return im
}

func evenSizes() [][2]int64 {
	return [][2]int64{{1, 2}, {2, 2}, {1, 64}, {64, 2}, {64, 64}, {3, 4}, {5, 6}, {7, 62}, {63, 10}}
}

func TestFoldPlainly(t *testing.T) {
	m := mixer(70)
	for _, size := range evenSizes() {
		for range 4 {
			for _, pair := range [][2]impl.Image{
				{m.image(size[0], size[1], impl.MaxPix), m.image(size[0], size[1], impl.MaxPix)},
				{m.edgy(size[0], size[1]), m.edgy(size[0], size[1])},
			} {
				wantImage(t, size, impl.Fold(pair[0], pair[1]), foldOf(pair[0], pair[1]))
				wantImage(t, size, impl.Fold(pair[1], pair[0]), foldOf(pair[0], pair[1]))
			}
		}
	}
	for _, one := range []int64{impl.MaxPix, -impl.MaxPix} {
		for _, two := range []int64{impl.MaxPix, -impl.MaxPix} {
			im, coil := impl.Image{W: 1, H: 2, Pix: []int64{one, one}}, impl.Image{W: 1, H: 2, Pix: []int64{two, two}}
			wantImage(t, []any{one, two}, impl.Fold(im, coil), foldOf(im, coil))
		}
	}
}

func TestFoldRefuses(t *testing.T) {
	m := mixer(71)
	for _, size := range [][2]int64{{1, 1}, {2, 1}, {64, 1}, {1, 3}, {4, 63}, {64, 63}, {2, 5}} {
		im := m.image(size[0], size[1], 9)
		if got := impl.Fold(im, im); !isZeroImage(got) {
			t.Error("an odd H", size, got.W, got.H)
		}
	}
	some := make([]int64, 24)
	for _, c := range [][4]int64{{6, 4, 4, 6}, {12, 2, 2, 12}, {3, 8, 4, 6}, {6, 4, 12, 2}} {
		a, b := impl.Image{W: c[0], H: c[1], Pix: some}, impl.Image{W: c[2], H: c[3], Pix: some}
		if !isZeroImage(impl.Fold(a, b)) || !isZeroImage(impl.Fold(b, a)) {
			t.Error("sizes that differ", c)
		}
	}
	base := m.image(4, 4, 9)
	for _, other := range []impl.Image{m.image(4, 2, 9), m.image(2, 4, 9), m.image(4, 8, 9), m.image(8, 4, 9), m.image(4, 5, 9)} {
		if !isZeroImage(impl.Fold(base, other)) || !isZeroImage(impl.Fold(other, base)) {
			t.Error("sizes that differ", other.W, other.H)
		}
	}
	for _, wrong := range append(wrongImages(), impl.Image{W: 2, H: 66, Pix: make([]int64, 132)}, impl.Image{W: 66, H: 2, Pix: make([]int64, 132)}) {
		for _, other := range []impl.Image{base, wrong, {W: wrong.W, H: wrong.H, Pix: make([]int64, len(wrong.Pix))}, {W: 2, H: 2, Pix: make([]int64, 4)}} {
			func() {
				defer wantNoPanic(t, wrong)
				if !isZeroImage(impl.Fold(wrong, other)) || !isZeroImage(impl.Fold(other, wrong)) {
					t.Error("not right", wrong.W, wrong.H, len(wrong.Pix))
				}
			}()
		}
	}
}

// wantUnfold holds an answer of Unfold against the two equations, which have one pair of residues alone.
func wantUnfold(t *testing.T, what any, f, g, a, b impl.Image) (impl.Image, int64) {
	t.Helper()
	got, count := impl.Unfold(f, g, a, b)
	if got.W != f.W || got.H != 2*f.H || int64(len(got.Pix)) != 2*f.W*f.H {
		t.Fatalf("%v: %d x %d with %d pixels", what, got.W, got.H, len(got.Pix))
	}
	rf, rg, ra, rb := residuesOf(f), residuesOf(g), residuesOf(a), residuesOf(b)
	want, half := int64(0), len(f.Pix)
	for i := range half {
		a1, a2, b1, b2 := ra.Pix[i], ra.Pix[i+half], rb.Pix[i], rb.Pix[i+half]
		p, q := got.Pix[i], got.Pix[i+half]
		if p < 0 || p >= prime || q < 0 || q >= prime {
			t.Fatalf("%v: pixel %d: %d and %d are no residues", what, i, p, q)
		}
		if bigModulo(a1*b2-a2*b1, prime) == 0 {
			want++
			if p != 0 || q != 0 {
				t.Fatalf("%v: pixel %d is counted, but %d and %d", what, i, p, q)
			}
			continue
		}
		if (a1*p+a2*q)%prime != rf.Pix[i] || (b1*p+b2*q)%prime != rg.Pix[i] {
			t.Fatalf("%v: pixel %d: %d and %d don't fold to what was seen", what, i, p, q)
		}
	}
	if count != want {
		t.Errorf("%v: counted %d, want %d", what, count, want)
	}
	return got, count
}

// blind makes b at some pixels a multiple of a, so that the two don't tell the rows apart there.
func (m *mixer) blind(a, b impl.Image, one, outOf int64) {
	half := len(a.Pix) / 2
	for i := range half {
		if m.pick(1, outOf) > one {
			continue
		}
		factor := m.pick(0, 5)
		b.Pix[i] = bigModulo(a.Pix[i], prime)*factor - m.pick(0, 3)*prime
		b.Pix[i+half] = bigModulo(a.Pix[i+half], prime)*factor + m.pick(0, 3)*prime
	}
}

// Promise 7, its first half.
func TestUnfoldOfFold(t *testing.T) {
	m := mixer(72)
	for _, size := range evenSizes() {
		for _, blindness := range []int64{0, 1, 2, 4} {
			im := m.image(size[0], size[1], impl.MaxPix)
			a, b := m.image(size[0], size[1], impl.MaxPix), m.image(size[0], size[1], impl.MaxPix)
			if blindness == 1 {
				im, a, b = m.edgy(size[0], size[1]), m.edgy(size[0], size[1]), m.edgy(size[0], size[1])
			}
			m.blind(a, b, blindness, 4)
			f, g := impl.Fold(im, a), impl.Fold(im, b)
			got, count := wantUnfold(t, size, f, g, a, b)
			if half := size[0] * size[1] / 2; (blindness == 4) != (count == half) && half > 20 {
				t.Error(size, blindness, count)
			}
			wantSeen(t, size, got, im, a, b)
		}
	}
}

// wantSeen asks for the residues of im wherever the coils tell the rows apart.
func wantSeen(t *testing.T, what any, got, im, a, b impl.Image) {
	t.Helper()
	want, ra, rb := residuesOf(im), residuesOf(a), residuesOf(b)
	half := len(im.Pix) / 2
	for i := range half {
		if bigModulo(ra.Pix[i]*rb.Pix[i+half]-ra.Pix[i+half]*rb.Pix[i], prime) == 0 {
			want.Pix[i], want.Pix[i+half] = 0, 0
		}
	}
	wantImage(t, what, got, want)
}

// What no coil saw is unfolded too: any f and g, pixels below 0 and at the ends of their range.
func TestUnfoldOfAnything(t *testing.T) {
	m := mixer(73)
	for _, size := range evenSizes() {
		w, h := size[0], size[1]
		for range 6 {
			wantUnfold(t, size, m.image(w, h/2, impl.MaxPix), m.image(w, h/2, impl.MaxPix), m.image(w, h, impl.MaxPix), m.image(w, h, impl.MaxPix))
			wantUnfold(t, size, m.edgy(w, h/2), m.edgy(w, h/2), m.edgy(w, h), m.edgy(w, h))
		}
	}
}

func TestUnfoldBlindCoils(t *testing.T) {
	m := mixer(74)
	f, g := m.image(3, 2, impl.MaxPix), m.image(3, 2, impl.MaxPix)
	a, none := m.image(3, 4, impl.MaxPix), impl.Image{W: 3, H: 4, Pix: make([]int64, 12)}
	multiple := impl.Image{W: 3, H: 4, Pix: slices.Repeat([]int64{-12289, 24578}, 6)}
	for _, pair := range [][2]impl.Image{{a, a}, {a, none}, {none, a}, {none, none}, {a, multiple}, {multiple, multiple}} {
		got, count := impl.Unfold(f, g, pair[0], pair[1])
		if count != 6 {
			t.Error(count)
		}
		wantImage(t, "blind", got, none)
	}
	one := impl.Image{W: 1, H: 1, Pix: []int64{5}}
	got, count := impl.Unfold(one, one, impl.Image{W: 1, H: 2, Pix: []int64{1, 0}}, impl.Image{W: 1, H: 2, Pix: []int64{0, 12288}})
	if count != 0 {
		t.Error(count)
	}
	wantImage(t, "one row each", got, impl.Image{W: 1, H: 2, Pix: []int64{5, 12284}})
}

func TestUnfoldRefusesSizes(t *testing.T) {
	m := mixer(75)
	image := func(w, h int64) impl.Image { return m.image(w, h, 9) }
	for _, c := range [][4][2]int64{
		{{2, 2}, {2, 2}, {2, 2}, {2, 2}}, {{2, 2}, {2, 2}, {2, 4}, {2, 2}}, {{2, 2}, {2, 2}, {2, 2}, {2, 4}},
		{{2, 2}, {2, 1}, {2, 4}, {2, 4}}, {{2, 1}, {2, 2}, {2, 4}, {2, 4}}, {{2, 2}, {1, 2}, {2, 4}, {2, 4}}, {{1, 2}, {2, 2}, {2, 4}, {2, 4}},
		{{2, 2}, {2, 2}, {1, 4}, {2, 4}}, {{2, 2}, {2, 2}, {2, 4}, {1, 4}}, {{2, 2}, {2, 2}, {1, 4}, {1, 4}}, {{1, 2}, {1, 2}, {2, 4}, {2, 4}},
		{{2, 2}, {2, 2}, {2, 3}, {2, 3}}, {{2, 2}, {2, 2}, {2, 5}, {2, 5}}, {{2, 2}, {2, 2}, {4, 2}, {4, 2}}, {{4, 1}, {2, 2}, {2, 4}, {2, 4}},
		{{4, 1}, {4, 1}, {2, 4}, {2, 4}}, {{2, 33}, {2, 33}, {2, 64}, {2, 64}}, {{2, 33}, {2, 33}, {2, 66}, {2, 66}}, {{2, 64}, {2, 64}, {2, 64}, {2, 64}},
		{{2, 64}, {2, 64}, {2, 128}, {2, 128}}, {{1, 33}, {1, 33}, {1, 66}, {1, 66}},
	} {
		got, count := impl.Unfold(image(c[0][0], c[0][1]), image(c[1][0], c[1][1]), image(c[2][0], c[2][1]), image(c[3][0], c[3][1]))
		if !isZeroImage(got) || count != 0 {
			t.Error(c, got.W, got.H, count)
		}
	}
	for _, w := range []int64{1, 64} { // 2 H of just MaxSide
		wantUnfold(t, "64 rows", image(w, 32), image(w, 32), image(w, 64), image(w, 64))
	}
}

func TestUnfoldRefusesImages(t *testing.T) {
	m := mixer(76)
	right := []impl.Image{m.image(2, 2, 9), m.image(2, 2, 9), m.image(2, 4, 9), m.image(2, 4, 9)}
	for at, was := range right {
		for _, pixel := range []int64{impl.MaxPix + 1, -impl.MaxPix - 1, leastInt, mostInt} {
			for _, i := range []int{0, len(was.Pix) - 1} {
				list := slices.Clone(right)
				list[at].Pix = slices.Clone(was.Pix)
				list[at].Pix[i] = pixel
				wantNoUnfold(t, []any{at, i, pixel}, list)
			}
		}
		for _, many := range []int{0, len(was.Pix) - 1, len(was.Pix) + 1} {
			list := slices.Clone(right)
			list[at].Pix = make([]int64, many)
			wantNoUnfold(t, []any{at, many}, list)
		}
		for _, wrong := range wrongImages() {
			list := slices.Clone(right)
			list[at] = wrong
			wantNoUnfold(t, []any{at, wrong.W, wrong.H}, list)
		}
	}
	for _, wrong := range wrongImages() {
		wantNoUnfold(t, wrong, []impl.Image{wrong, wrong, wrong, wrong})
		twice := impl.Image{W: wrong.W, H: 2 * wrong.H, Pix: slices.Concat(wrong.Pix, wrong.Pix)}
		wantNoUnfold(t, wrong, []impl.Image{wrong, wrong, twice, twice})
	}
}

func wantNoUnfold(t *testing.T, what any, list []impl.Image) {
	t.Helper()
	defer wantNoPanic(t, what)
	if got, count := impl.Unfold(list[0], list[1], list[2], list[3]); !isZeroImage(got) || count != 0 {
		t.Errorf("%v: %d x %d with %d pixels, %d", what, got.W, got.H, len(got.Pix), count)
	}
}

func TestCoilsLeaveArguments(t *testing.T) {
	m := mixer(77)
	im, a, b := m.image(3, 4, impl.MaxPix), m.image(3, 4, impl.MaxPix), m.image(3, 4, impl.MaxPix)
	m.blind(a, b, 1, 3)
	var was [3][]int64
	for i, p := range []*impl.Image{&im, &a, &b} {
		was[i] = slices.Clone(p.Pix)
		p.Pix = roomy(was[i], int64(i)+3)
	}
	f, g := impl.Fold(im, a), impl.Fold(im, b)
	wasF, wasG := slices.Clone(f.Pix), slices.Clone(g.Pix)
	f.Pix, g.Pix = roomy(wasF, 1), roomy(wasG, 2)
	first, count := impl.Unfold(f, g, a, b)
	second, _ := impl.Unfold(f, g, a, b)
	if !stays(im.Pix, was[0], 3) || !stays(a.Pix, was[1], 4) || !stays(b.Pix, was[2], 5) || !stays(f.Pix, wasF, 1) || !stays(g.Pix, wasG, 2) {
		t.Error("an argument changes")
	}
	want := slices.Clone(second.Pix)
	other := impl.Fold(im, a)
	for _, list := range [][]int64{first.Pix, f.Pix, im.Pix, a.Pix} {
		spoil(list)
	}
	wantLists(t, "two answers of Unfold", second.Pix, want)
	wantLists(t, "two answers of Fold", other.Pix, wasF)
	a.Pix, f.Pix = was[1], wasF
	if again, n := impl.Unfold(f, g, a, b); n != count || !slices.Equal(again.Pix, want) {
		t.Error("something was kept")
	}
}

// One image handed in several times.
func TestCoilsShareImages(t *testing.T) {
	m := mixer(78)
	im := m.image(4, 4, impl.MaxPix)
	was := slices.Clone(im.Pix)
	f := impl.Fold(im, im)
	wantImage(t, "one image twice", f, foldOf(im, im))
	got, count := impl.Unfold(f, f, im, im)
	if count != 8 {
		t.Error(count)
	}
	wantImage(t, "one coil twice", got, impl.Image{W: 4, H: 4, Pix: make([]int64, 16)})
	wantLists(t, "the image", im.Pix, was)
}
