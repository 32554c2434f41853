package tests

import (
	"slices"
	"testing"

	"loop.example/g00050/impl"
)

func TestRightShapesAreRight(t *testing.T) {
	for _, s := range rightShapes() {
		if !impl.ShapeOk(s) {
			t.Error(s)
		}
	}
	for _, s := range wrongShapes() {
		if impl.ShapeOk(s) {
			t.Error(s)
		}
	}
}

// fieldOf lets one test walk the fields of a shape.
func fieldOf(s *impl.Shape, name byte) *int64 {
	switch name {
	case 'X':
		return &s.X
	case 'Y':
		return &s.Y
	case 'A':
		return &s.A
	case 'B':
		return &s.B
	case 'C':
		return &s.C
	}
	return &s.Value
}

func TestShapeLimits(t *testing.T) {
	right := rightShapes()
	box, oval, band, ring := right[0], right[1], right[2], right[3]
	flat := ring
	flat.A = 0 // so that B may be anything
	wide := ring
	wide.B = impl.MaxPlace // so that A may be anything
	for _, c := range []struct {
		s           impl.Shape
		field       byte
		least, most int64
	}{
		{box, 'A', 0, 1000}, {box, 'B', 0, 1000}, {box, 'C', 0, 0},
		{oval, 'A', 1, 1000}, {oval, 'B', 1, 1000}, {oval, 'C', 0, 0},
		{band, 'A', -1000, 1000}, {band, 'B', -1000, 1000}, {band, 'C', 0, 1000},
		{wide, 'A', 0, 1000}, {flat, 'B', 0, 1000}, {ring, 'C', 0, 0},
		{ring, 'A', 0, 6}, {ring, 'B', 5, 1000},
	} {
		wantRange(t, c.s, c.field, c.least, c.most)
	}
	for _, s := range right {
		wantRange(t, s, 'X', -1000, 1000)
		wantRange(t, s, 'Y', -1000, 1000)
		wantRange(t, s, 'V', -1000, 1000)
	}
}

// wantRange asks that the shape is right just while the field is from least to most.
func wantRange(t *testing.T, s impl.Shape, field byte, least, most int64) {
	t.Helper()
	for _, v := range []int64{leastInt, leastInt + 1, -1 << 32, -1001, -1000, -1, 0, 1, 1000, 1001, 1 << 32, mostInt - 1, mostInt, least - 1, least, least + 1, most - 1, most, most + 1} {
		*fieldOf(&s, field) = v
		want := least <= v && v <= most
		if impl.ShapeOk(s) != want {
			t.Errorf("%+v: right %v, want %v", s, !want, want)
		}
		if im := impl.Paint([]impl.Shape{s}, 1, 1); isZeroImage(im) == want {
			t.Errorf("%+v: painted %v, want %v", s, !want, want)
		}
		if !want && impl.Inside(s, s.X, s.Y) {
			t.Errorf("%+v: not as told, and has its own place", s)
		}
	}
}

func TestBandNeedsOneOfAAndB(t *testing.T) {
	for _, c := range []struct {
		a, b int64
		want bool
	}{{0, 0, false}, {0, 1, true}, {0, -1, true}, {1, 0, true}, {-1, 0, true}, {5, -5, true}} {
		s := impl.Shape{Kind: impl.ShBand, A: c.a, B: c.b, C: 2}
		if impl.ShapeOk(s) != c.want || impl.Inside(s, 0, 0) != c.want {
			t.Error(c)
		}
	}
}

func TestRingNeedsAUpToB(t *testing.T) {
	for _, c := range []struct {
		a, b int64
		want bool
	}{{0, 0, true}, {7, 7, true}, {7, 8, true}, {8, 7, false}, {1, 0, false}, {1000, 1000, true}, {1000, 999, false}} {
		if impl.ShapeOk(impl.Shape{Kind: impl.ShRing, A: c.a, B: c.b}) != c.want {
			t.Error(c)
		}
	}
}

func TestKinds(t *testing.T) {
	for _, kind := range []int64{leastInt, leastInt + 1, -1, 0, 1, 2, 3, 4, 5, 6, 257, 1<<32 + 1, mostInt} {
		s := impl.Shape{Kind: kind, A: 1, B: 1}
		want := kind >= 1 && kind <= 4
		if impl.ShapeOk(s) != want {
			t.Error(kind)
		}
		// of a ring of 1 to 1 the place itself is none of it; a point beside it all kinds but the band have
		if got := impl.Inside(s, 0, 1) || impl.Inside(s, 0, 0); got != want {
			t.Error(kind, got)
		}
	}
}

// bordered are shapes of every kind, small and at their limits.
func bordered() []impl.Shape {
	list := rightShapes()
	for _, at := range []int64{-1000, 0, 1000} {
		list = append(list,
			impl.Shape{Kind: impl.ShBox, X: at, Y: -at},
			impl.Shape{Kind: impl.ShBox, X: at, Y: at, A: 1000, B: 1000},
			impl.Shape{Kind: impl.ShOval, X: at, Y: at, A: 1, B: 1},
			impl.Shape{Kind: impl.ShOval, X: at, Y: at, A: 1000, B: 999},
			impl.Shape{Kind: impl.ShOval, X: at, Y: at, A: 1, B: 1000},
			impl.Shape{Kind: impl.ShBand, X: at, Y: at, A: 1000, B: 1000, C: 1000},
			impl.Shape{Kind: impl.ShBand, X: at, Y: -at, A: -1000, B: 999},
			impl.Shape{Kind: impl.ShBand, X: -at, Y: at, A: 3, B: -7, C: 11},
			impl.Shape{Kind: impl.ShRing, X: at, Y: at},
			impl.Shape{Kind: impl.ShRing, X: at, Y: at, A: 1000, B: 1000},
			impl.Shape{Kind: impl.ShRing, X: at, Y: at, A: 5, B: 5},
			impl.Shape{Kind: impl.ShRing, X: at, Y: at, A: 24, B: 26})
	}
	m := mixer(20)
	return append(list, m.shapes(40)...)
}

func TestInsideByTheRule(t *testing.T) {
	steps := []int64{-1001, -1000, -999, -707, -25, 25, 706, 999, 1000, 1001}
	for d := int64(-12); d <= 12; d++ {
		steps = append(steps, d)
	}
	for _, s := range bordered() {
		for _, dx := range steps {
			for _, dy := range steps {
				wantInside(t, s, s.X+dx, s.Y+dy)
			}
			for _, dy := range []int64{s.B - 1, s.B, s.B + 1, -s.B - 1, -s.B, -s.B + 1} {
				wantInside(t, s, s.X+dx, s.Y+dy)
				wantInside(t, s, s.X+dy, s.Y+dx)
			}
		}
	}
}

func wantInside(t *testing.T, s impl.Shape, x, y int64) {
	t.Helper()
	if want := hasPoint(s, x, y); impl.Inside(s, x, y) != want {
		t.Fatalf("%+v at %d, %d: want %v", s, x, y, want)
	}
}

func TestInsideBorders(t *testing.T) {
	right := rightShapes()
	for _, c := range []struct {
		s    impl.Shape
		x, y int64
		want bool
	}{
		{right[0], 8, 2, true}, {right[0], 9, 2, false}, {right[0], 8, 3, false}, {right[0], -2, -10, true}, {right[0], -3, -10, false}, {right[0], -2, -11, false},
		{right[1], 8, -4, true}, {right[1], 9, -4, false}, {right[1], 3, 2, true}, {right[1], 3, 3, false}, {right[1], 4, 2, false}, {right[1], 6, 0, true}, {right[1], 7, 0, false},
		{right[2], 3, -4, true}, {right[2], 4, -4, true}, {right[2], 5, -4, false}, {right[2], 3, -3, true}, {right[2], 3, -2, false}, {right[2], 1, -5, true}, {right[2], 9, 1, true}, {right[2], 11, 1, false},
		{right[3], 8, -4, true}, {right[3], 9, -4, true}, {right[3], 10, -4, false}, {right[3], 7, -4, false}, {right[3], 6, 0, true}, {right[3], 5, -1, false},
	} {
		if impl.Inside(c.s, c.x, c.y) != c.want {
			t.Errorf("%+v at %d, %d: want %v", c.s, c.x, c.y, c.want)
		}
	}
}

// TestPointLimits takes bands that run along an axis, since they alone reach to MaxAt.
func TestPointLimits(t *testing.T) {
	flat := impl.Shape{Kind: impl.ShBand, B: 1, Value: 3}
	steep := impl.Shape{Kind: impl.ShBand, A: 1, Value: 3}
	for _, v := range []int64{leastInt, leastInt + 1, -1 << 32, -100001, -100000, -99999, 0, 99999, 100000, 100001, 1 << 32, mostInt - 1, mostInt} {
		want := v >= -100000 && v <= 100000
		density := int64(0)
		if want {
			density = 3
		}
		if impl.Inside(flat, v, 0) != want || impl.Density([]impl.Shape{flat}, v, 0) != density {
			t.Error("x", v)
		}
		if impl.Inside(steep, 0, v) != want || impl.Density([]impl.Shape{steep}, 0, v) != density {
			t.Error("y", v)
		}
	}
	slope := impl.Shape{Kind: impl.ShBand, X: 1000, Y: -1000, A: 1000, B: 1000, Value: 1}
	for _, at := range []int64{-100000, 100000} {
		if !impl.Inside(slope, at, -at) || impl.Inside(slope, at, at) {
			t.Error("slope", at)
		}
	}
}

func TestFarPointsByTheRule(t *testing.T) {
	for _, s := range bordered() {
		for _, x := range []int64{-100000, -99999, 0, 99999, 100000} {
			for _, y := range []int64{-100000, -99999, 0, 99999, 100000} {
				wantInside(t, s, x, y)
			}
		}
	}
}

func TestDensityIsTheSum(t *testing.T) {
	m := mixer(21)
	for n := range 65 {
		list := m.shapes(n)
		for range 40 {
			x, y := m.pick(-30, 90), m.pick(-30, 90)
			if got, want := impl.Density(list, x, y), densityOf(list, x, y); got != want {
				t.Fatalf("%d shapes at %d, %d: %d, want %d", n, x, y, got, want)
			}
		}
	}
	if impl.Density(nil, 0, 0) != 0 {
		t.Error("no shapes")
	}
}

func TestDensityRefuses(t *testing.T) {
	point := impl.Shape{Kind: impl.ShBox, Value: 1000}
	full := slices.Repeat([]impl.Shape{point}, 64)
	if got := impl.Density(full, 0, 0); got != 64000 {
		t.Error("64 shapes", got)
	}
	if got := impl.Density(append(slices.Clone(full), point), 0, 0); got != 0 {
		t.Error("65 shapes", got)
	}
	for _, wrong := range wrongShapes() {
		for _, i := range []int{0, 31, 63} {
			list := slices.Clone(full)
			list[i] = wrong
			if got := impl.Density(list, 0, 0); got != 0 {
				t.Errorf("%+v as number %d: %d", wrong, i, got)
			}
		}
	}
}

// TestWildShapes asks that no number is answered by a panic, and none but right shapes by true.
func TestWildShapes(t *testing.T) {
	wild := []int64{leastInt, -1001, -1, 0, 1, 4, 1001, mostInt}
	m := mixer(22)
	one := func() int64 { return wild[m.next()%uint64(len(wild))] }
	for range 20000 {
		s := impl.Shape{Kind: m.pick(-1, 6), X: one(), Y: one(), A: one(), B: one(), C: one(), Value: one()}
		askWild(t, s, one(), one())
	}
}

func askWild(t *testing.T, s impl.Shape, x, y int64) {
	defer wantNoPanic(t, s)
	ok := impl.ShapeOk(s)
	if impl.Inside(s, x, y) && !ok || impl.Density([]impl.Shape{s}, x, y) != 0 && !impl.Inside(s, x, y) {
		t.Fatalf("%+v at %d, %d", s, x, y)
	}
	if im := impl.Paint([]impl.Shape{s}, 3, 3); isZeroImage(im) == ok {
		t.Fatalf("%+v: %v", s, im)
	}
}
