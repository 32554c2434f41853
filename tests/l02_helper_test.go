package tests

import (
	"math"
	"math/big"
	"slices"
	"testing"

	"loop.example/g00050/impl"
)

const (
	leastInt = math.MinInt64
	mostInt  = math.MaxInt64
)

// pick is a whole number from least to most.
func (m *mixer) pick(least, most int64) int64 {
	return least + int64(m.next()%uint64(most-least+1))
}

// shape is some right shape near the first MaxSide columns and rows.
func (m *mixer) shape() impl.Shape {
	s := impl.Shape{Kind: m.pick(1, 4), X: m.pick(-20, 80), Y: m.pick(-20, 80), A: m.pick(1, 30), B: m.pick(1, 30), Value: m.pick(-1000, 1000)}
	switch s.Kind {
	case impl.ShBand:
		s.A, s.B, s.C = s.A-15, m.pick(1, 9), m.pick(0, 60)
	case impl.ShRing:
		s.B += s.A
	}
	return s
}

func (m *mixer) shapes(n int) []impl.Shape {
	list := make([]impl.Shape, n)
	for i := range list {
		list[i] = m.shape()
	}
	return list
}

// image is a right image with pixels of at most most in size.
func (m *mixer) image(w, h, most int64) impl.Image {
	im := impl.Image{W: w, H: h, Pix: make([]int64, w*h)}
	for i := range im.Pix {
		im.Pix[i] = m.pick(-most, most)
	}
	return im
}

// rightShapes are one of each kind, each with room to move on every side.
func rightShapes() []impl.Shape {
	return []impl.Shape{
		{Kind: impl.ShBox, X: 3, Y: -4, A: 5, B: 6, Value: 7},
		{Kind: impl.ShOval, X: 3, Y: -4, A: 5, B: 6, Value: 7},
		{Kind: impl.ShBand, X: 3, Y: -4, A: 5, B: -6, C: 8, Value: 7},
		{Kind: impl.ShRing, X: 3, Y: -4, A: 5, B: 6, Value: 7},
	}
}

// wrongShapes are not as told, each for one reason alone.
func wrongShapes() []impl.Shape {
	return []impl.Shape{
		{},
		{Kind: 5, A: 1, B: 1},
		{Kind: impl.ShBox, C: 1},
		{Kind: impl.ShBox, A: -1},
		{Kind: impl.ShBox, Value: impl.MaxValue + 1},
		{Kind: impl.ShOval, A: 0, B: 1},
		{Kind: impl.ShOval, A: 1, B: 1, X: impl.MaxPlace + 1},
		{Kind: impl.ShBand, C: 3},
		{Kind: impl.ShBand, A: 1, Y: -impl.MaxPlace - 1},
		{Kind: impl.ShRing, A: 3, B: 2},
	}
}

// hasPoint is the document's rule for a right shape, in numbers without an end.
func hasPoint(s impl.Shape, x, y int64) bool {
	n := big.NewInt
	times := func(a, b *big.Int) *big.Int { return new(big.Int).Mul(a, b) }
	plus := func(a, b *big.Int) *big.Int { return new(big.Int).Add(a, b) }
	square := func(a *big.Int) *big.Int { return times(a, a) }
	dx, dy := new(big.Int).Sub(n(x), n(s.X)), new(big.Int).Sub(n(y), n(s.Y))
	a, b, c := n(s.A), n(s.B), n(s.C)
	switch s.Kind {
	case impl.ShBox:
		return dx.CmpAbs(a) <= 0 && dy.CmpAbs(b) <= 0
	case impl.ShOval:
		sum := plus(times(square(b), square(dx)), times(square(a), square(dy)))
		return sum.Cmp(times(square(a), square(b))) <= 0
	case impl.ShBand:
		return plus(times(a, dx), times(b, dy)).CmpAbs(c) <= 0
	}
	sum := plus(square(dx), square(dy))
	return sum.Cmp(square(a)) >= 0 && sum.Cmp(square(b)) <= 0
}

// densityOf is the document's sum for right shapes.
func densityOf(shapes []impl.Shape, x, y int64) int64 {
	sum := int64(0)
	for _, s := range shapes {
		if hasPoint(s, x, y) {
			sum += s.Value
		}
	}
	return sum
}

func sameImage(a, b impl.Image) bool {
	return a.W == b.W && a.H == b.H && slices.Equal(a.Pix, b.Pix)
}

func isZeroImage(im impl.Image) bool {
	return im.W == 0 && im.H == 0 && len(im.Pix) == 0
}

// roomy is the list with spare room behind it, filled with mark.
func roomy[T any](list []T, mark T) []T {
	whole := slices.Clone(list)
	for range 8 {
		whole = append(whole, mark)
	}
	return whole[:len(list)]
}

// stays says whether list is as it was, and the spare room behind it holds mark still.
func stays[T comparable](list, was []T, mark T) bool {
	for _, v := range list[len(list):cap(list)][:8] {
		if v != mark {
			return false
		}
	}
	return slices.Equal(list, was)
}

func wantNoPanic(t *testing.T, what any) {
	t.Helper()
	if fault := recover(); fault != nil {
		t.Errorf("%v panics: %v", what, fault)
	}
}
