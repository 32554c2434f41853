package tests

import (
	"fmt"
	"math/big"
	"slices"
	"testing"

	"loop.example/g00050/impl"
)

// entryEdges are a number's limits, one past each, and both ends of int64.
func entryEdges() []int64 {
	return []int64{impl.MaxEntry, impl.MaxEntry + 1, -impl.MaxEntry, -impl.MaxEntry - 1, leastInt, leastInt + 1, mostInt, mostInt - 1, 1 << 32, -1 << 32, 1<<32 + 1}
}

func wantFrameOk(t *testing.T, what any, f impl.Frame) {
	t.Helper()
	defer wantNoPanic(t, what)
	if got, want := impl.FrameOk(f), plainFrameOk(f); got != want {
		t.Errorf("%v: %v is right: %v", what, f, got)
	}
}

func TestFrameOkOfLengths(t *testing.T) {
	nine, three := append(still().M, 0, 0), append(still().T, 0, 0)
	for _, m := range []int{0, 1, 3, 8, 9, 10, 11} {
		for _, n := range []int{0, 1, 2, 3, 4} {
			f := impl.Frame{M: nine[:m:m], T: three[:n:n], D: 1}
			if impl.FrameOk(f) != (m == 9 && n == 3) {
				t.Error(m, n)
			}
			// What lies behind a list's length is not read.
			if impl.FrameOk(impl.Frame{M: nine[:m], T: three[:n], D: 1}) != (m == 9 && n == 3) {
				t.Error("with room", m, n)
			}
		}
	}
	if impl.FrameOk(impl.Frame{}) || impl.FrameOk(impl.Frame{D: 1}) {
		t.Error("no lists")
	}
}

func TestFrameOkAtTheLimits(t *testing.T) {
	for at := range 12 {
		for _, number := range entryEdges() {
			wantFrameOk(t, at, withNumber(still(), at, number))
			right := number >= -1000000 && number <= 1000000
			if impl.FrameOk(withNumber(still(), at, number)) != right {
				t.Error(at, number)
			}
		}
	}
	for _, d := range append(entryEdges(), -1, 0, 1, 2, -2, impl.MaxEntry-1) {
		if impl.FrameOk(withNumber(still(), 12, d)) != (d >= 1 && d <= 1000000) {
			t.Error("D", d)
		}
	}
	for _, f := range wrongFrames() {
		wantFrameOk(t, "wrong", f)
		if impl.FrameOk(f) {
			t.Error(f)
		}
	}
}

func TestFrameOkOfDivisors(t *testing.T) {
	for _, divisor := range []int64{2, 3, 4, 6, 101, 499979, 999983, impl.MaxEntry} {
		times := func(n int64) int64 { return n * divisor }
		f := impl.Frame{M: []int64{times(1), times(-1), 0, 0, times(1), times(1), times(1), 0, times(-1)}, T: []int64{times(1), 0, times(-1)}, D: divisor}
		if impl.FrameOk(f) || bigDeterminant(f.M).Sign() == 0 {
			t.Error("all thirteen have", divisor)
		}
		for at := range 13 {
			one := withNumber(f, at, divisor-1)
			wantFrameOk(t, divisor, one)
			if !impl.FrameOk(one) {
				t.Error("one has not", divisor, at)
			}
		}
		bare := diagonal(divisor, -divisor, divisor, divisor)
		if impl.FrameOk(bare) || !impl.FrameOk(withNumber(bare, 12, 1)) || !impl.FrameOk(withNumber(bare, 9, -1)) {
			t.Error("a diagonal of", divisor)
		}
	}
	// Of each pair a divisor is common, of all none.
	if !impl.FrameOk(diagonal(6, 10, 15, 30)) || impl.FrameOk(diagonal(12, 20, 30, 60)) {
		t.Error("pairs")
	}
}

// determinants are matrices in their limits with determinants of all kinds, 0 among them.
func determinants(m *mixer) [][]int64 {
	const most = impl.MaxEntry
	list := [][]int64{
		{1, 0, 0, 0, 1, 0, 0, 0, 1}, {-1, 0, 0, 0, 1, 0, 0, 0, 1}, {0, 1, 0, 1, 0, 0, 0, 0, 1}, {0, 1, 0, 0, 0, 1, 1, 0, 0}, {0, 0, 1, 0, 1, 0, 1, 0, 0},
		{0, 0, 0, 0, 0, 0, 0, 0, 0}, {1, 1, 1, 1, 1, 1, 1, 1, 1}, {1, 2, 3, 4, 5, 6, 7, 8, 9}, {1, 2, 3, 4, 5, 6, 5, 7, 9}, {1, 0, 0, 0, 1, 0, 1, 1, 0},
		{-most, most, most, most, -most, most, most, most, -most}, {most, -most, -most, -most, most, -most, -most, -most, most},
		{most, most, most, most, most, most, most, most, most}, {most, most, most, most, most, most, most, most, most - 1},
		{most, most - 1, 0, most - 1, most - 2, 0, 0, 0, 1}, {most, most - 1, 0, most - 1, most - 2, 0, 0, 0, most},
		{most, most - 1, most, most - 1, most - 2, most, most - 1, most - 2, most}, {most, -most, 0, -most, most, 0, 0, 0, most},
		{1 << 19, 0, 0, 0, 1 << 19, 0, 0, 0, 1 << 19}, {-1 << 19, 1 << 19, 1 << 19, 1 << 19, -1 << 19, 1 << 19, 1 << 19, 1 << 19, -1 << 19},
		{1 << 18, 0, 0, 0, 1 << 18, 0, 0, 0, -1 << 18}, {1 << 16, 0, 0, 0, 1 << 16, 0, 0, 0, 1}, {1 << 16, 0, 0, 0, 1 << 16, 0, 0, 0, -1},
		{1 << 11, 0, 0, 0, 1 << 11, 0, 0, 0, 1 << 10}, {1 << 12, 0, 0, 0, -1 << 10, 0, 0, 0, 1 << 10},
	}
	for range 300 {
		a, b, times := m.frame(most/2, 1).M, m.frame(most, 1).M, []int64{m.pick(-1, 1), m.pick(-1, 1)}
		for i := range 3 { // the last row is made of the others: 0, or by one number not
			b[i] = a[i+3]
			b[i+3] = a[i]
			b[i+6] = times[0]*a[i] + times[1]*a[i+3]
		}
		list = append(list, a, slices.Clone(b))
		b[m.pick(6, 8)] += m.pick(-1, 1)
		list = append(list, b, m.frame(1, 1).M)
	}
	return list
}

func TestFrameOkOfDeterminants(t *testing.T) {
	m := mixer(120)
	singular := 0
	for _, nine := range determinants(&m) {
		f := impl.Frame{M: slices.Clone(nine), T: []int64{0, 0, 0}, D: 1}
		sign := int64(bigDeterminant(nine).Sign())
		if !slices.ContainsFunc(nine, func(n int64) bool { return n < -impl.MaxEntry || n > impl.MaxEntry }) {
			if impl.FrameOk(f) != (sign != 0) || impl.Handed(f) != sign {
				t.Errorf("%v: right %v, handed %d, of a determinant of %v", nine, impl.FrameOk(f), impl.Handed(f), bigDeterminant(nine))
			}
		}
		if sign == 0 {
			singular++
		}
	}
	if singular < 50 {
		t.Error("few determinants of 0:", singular)
	}
}

// Numbers past their limits whose determinant is 0 in one word, in two, or not at all.
func TestFrameOkWhereWordsWrapRound(t *testing.T) {
	for _, d := range [][3]int64{{1 << 32, 1 << 32, 1}, {1 << 22, 1 << 21, 1 << 21}, {1 << 62, 4, 1}, {1 << 62, 1 << 62, 16}, {1 << 62, 1 << 62, 1 << 62},
		{leastInt, 2, 1}, {leastInt, leastInt, leastInt}, {1 << 32, 1 << 32, 1 << 32}, {1 << 43, 1 << 43, 1 << 42}, {mostInt, mostInt, mostInt}} {
		f := diagonal(d[0], d[1], d[2], 1)
		if impl.FrameOk(f) || impl.Handed(f) != 0 || impl.SameFrame(f, f) {
			t.Error(d)
		}
		wantRefused(t, f)
	}
}

func wantRefused(t *testing.T, f impl.Frame) {
	t.Helper()
	defer wantNoPanic(t, f)
	for _, right := range []impl.Frame{still(), diagonal(3, -5, 7, 11), f} {
		got, ok := impl.Compose(f, right)
		other, otherOk := impl.Compose(right, f)
		if ok || otherOk || !isZeroFrame(got) || !isZeroFrame(other) {
			t.Errorf("%v: composed to %v %v and %v %v", f, got, ok, other, otherOk)
		}
	}
	if got, ok := impl.Invert(f); ok || !isZeroFrame(got) {
		t.Errorf("%v: inverted to %v %v", f, got, ok)
	}
	if impl.Handed(f) != 0 || impl.Move(f, 1, 2, 3) != (impl.Place{}) || impl.Move(f, 0, 0, 0) != (impl.Place{}) || impl.SameFrame(f, f) || impl.FrameOk(f) {
		t.Errorf("%v: handed %d, moves to %v, same %v", f, impl.Handed(f), impl.Move(f, 1, 2, 3), impl.SameFrame(f, f))
	}
}

func TestWrongFramesAreRefused(t *testing.T) {
	for _, f := range wrongFrames() {
		wantRefused(t, f)
	}
}

func TestSameFrame(t *testing.T) {
	m := mixer(121)
	for _, f := range append(m.frames(20), still(), diagonal(6, 10, 15, 30)) {
		if !impl.SameFrame(f, f) || !impl.SameFrame(f, cloneFrame(f)) {
			t.Error("not the same as itself", f)
		}
		for at := range 13 {
			now := slices.Concat(f.M, f.T, []int64{f.D})[at]
			for _, number := range []int64{now + 1, now - 1, -now, now + 1<<32, now + 256} {
				other := withNumber(f, at, number)
				if number != now && (impl.SameFrame(f, other) || impl.SameFrame(other, f)) {
					t.Error("the same", f, other)
				}
			}
		}
	}
	for at := range 13 { // both are right
		one, other := withNumber(diagonal(1, 1, 1, 1), at, 2), withNumber(diagonal(1, 1, 1, 1), at, 3)
		if !impl.FrameOk(one) || !impl.FrameOk(other) || impl.SameFrame(one, other) || !impl.SameFrame(one, cloneFrame(one)) {
			t.Error("one number", at)
		}
	}
	for _, f := range wrongFrames() {
		if impl.SameFrame(f, f) || impl.SameFrame(f, cloneFrame(f)) || impl.SameFrame(f, still()) || impl.SameFrame(still(), f) {
			t.Error("not right", f)
		}
	}
	// One map, told with a common divisor, is not right.
	if impl.SameFrame(diagonal(1, 1, 1, 1), diagonal(2, 2, 2, 2)) {
		t.Error("a multiple")
	}
}

func TestComposePlainly(t *testing.T) {
	m := mixer(122)
	list := m.frames(12)
	fits := 0
	for _, a := range list {
		for _, b := range list {
			if _, ok := wantComposed(t, "drawn", a, b); ok {
				fits++
			}
		}
		wantComposed(t, "with what moves nothing", a, still())
		wantComposed(t, "with what moves nothing", still(), a)
	}
	if fits < 2000 {
		t.Error("few fit:", fits)
	}
}

func TestComposeInItsOrder(t *testing.T) {
	turn := impl.Frame{M: []int64{0, -1, 0, 1, 0, 0, 0, 0, 1}, T: []int64{0, 0, 0}, D: 1}
	step := impl.Frame{M: still().M, T: []int64{1, 2, 3}, D: 1}
	half := impl.Frame{M: still().M, T: []int64{1, 0, 0}, D: 2}
	got, ok := impl.Compose(turn, step)
	wantFrame(t, "a step, then a turn", got, ok, impl.Frame{M: turn.M, T: []int64{-2, 1, 3}, D: 1}, true)
	got, ok = impl.Compose(step, turn)
	wantFrame(t, "a turn, then a step", got, ok, impl.Frame{M: turn.M, T: []int64{1, 2, 3}, D: 1}, true)
	got, ok = impl.Compose(step, half)
	wantFrame(t, "a half, then a step", got, ok, impl.Frame{M: still().M, T: []int64{3, 4, 6}, D: 2}, true)
	got, ok = impl.Compose(half, step)
	wantFrame(t, "a step, then a half", got, ok, impl.Frame{M: still().M, T: []int64{2, 2, 3}, D: 2}, true)
	got, ok = impl.Compose(diagonal(2, 4, 6, 9), diagonal(3, 3, 3, 2))
	wantFrame(t, "a common divisor", got, ok, diagonal(1, 2, 3, 3), true)
	got, ok = impl.Compose(diagonal(999983, 999983, 999983, 2), diagonal(2, 2, 2, 999983))
	wantFrame(t, "a great common divisor", got, ok, still(), true)
	got, ok = impl.Compose(diagonal(999983, 1, 1, 1), diagonal(1, 1, 1, 999983))
	wantFrame(t, "a divisor of some", got, ok, diagonal(999983, 1, 1, 999983), true)
}

// Each of the thirteen numbers once at its limit and once past it by one: 1000001 is 101 * 9901.
func TestComposeAtTheLimits(t *testing.T) {
	for _, c := range []struct{ a, b int64 }{{1000, 1000}, {101, 9901}, {-1000, 1000}, {-101, 9901}, {1000, -1000}, {9901, -101}, {-9901, -101}} {
		fits := c.a*c.b <= 1000000 && c.a*c.b >= -1000000
		for at := range 9 {
			last, first := withNumber(still(), at/3*4, c.a), withNumber(still(), at, c.b)
			if got, ok := wantComposed(t, at, last, first); ok != fits || ok && got.M[at] != c.a*c.b {
				t.Error("M", at, c, got, ok)
			}
		}
		for at := range 3 {
			last, first := withNumber(still(), at*4, c.a), withNumber(still(), 9+at, c.b)
			if got, ok := wantComposed(t, at, last, first); ok != fits || ok && got.T[at] != c.a*c.b {
				t.Error("T", at, c, got, ok)
			}
		}
		if c.a > 0 && c.b > 0 {
			last, first := diagonal(1, 1, 1, c.a), diagonal(1, 1, 1, c.b)
			if got, ok := wantComposed(t, "D", last, first); ok != fits || ok && got.D != c.a*c.b {
				t.Error("D", c, got, ok)
			}
		}
	}
	for at := 9; at < 12; at++ {
		for _, sign := range []int64{1, -1} {
			whole := withNumber(still(), at, sign*impl.MaxEntry)
			if _, ok := wantComposed(t, at, whole, withNumber(still(), at, sign)); ok {
				t.Error("a shift past its limit", at)
			}
			if got, ok := wantComposed(t, at, whole, withNumber(still(), at, -sign)); !ok || got.T[at-9] != sign*(impl.MaxEntry-1) {
				t.Error("a shift within it", at)
			}
		}
	}
	greatest := impl.Frame{M: []int64{-1000000, 1000000, 1000000, 1000000, -1000000, 1000000, 1000000, 1000000, -1000000}, T: []int64{1000000, -1000000, 1000000}, D: 999999}
	wantComposed(t, "the greatest", greatest, greatest)
	back := impl.Frame{M: []int64{0, 1, 1, 1, 0, 1, 1, 1, 0}, T: []int64{0, 0, 0}, D: 1000000}
	wantComposed(t, "the greatest, and back", back, withNumber(greatest, 12, 1))
}

// Promise 10, of brackets.
func TestComposeHangsOnNoBracketing(t *testing.T) {
	m := mixer(123)
	drawn := func() impl.Frame {
		switch m.pick(0, 4) {
		case 0:
			return m.shear(3, 3)
		case 1:
			return m.frame(2, 1)
		case 2:
			return m.frame(5, 6)
		case 3:
			return m.frame(20, 9)
		}
		return diagonal(1, -1, 1, m.pick(1, 40))
	}
	both, scaled := 0, 0
	for range 4000 {
		a, b, c := drawn(), drawn(), drawn()
		left, leftOk := composedTwice(a, b, c)
		right, rightOk := composedBehind(a, b, c)
		if leftOk && rightOk {
			both++
			if left.D > 1 {
				scaled++
			}
			if !sameNumbers(left, right) || !impl.SameFrame(left, right) {
				t.Fatalf("%v %v %v: %v or %v", a, b, c, left, right)
			}
		}
	}
	if both < 2000 || scaled < 1000 {
		t.Error("few are right in both bracketings:", both, scaled)
	}
}

// composedTwice is a and b, with c ahead of both.
func composedTwice(a, b, c impl.Frame) (impl.Frame, bool) {
	if ab, ok := impl.Compose(a, b); ok {
		return impl.Compose(ab, c)
	}
	return impl.Frame{}, false
}

// composedBehind is a behind b and c.
func composedBehind(a, b, c impl.Frame) (impl.Frame, bool) {
	if bc, ok := impl.Compose(b, c); ok {
		return impl.Compose(a, bc)
	}
	return impl.Frame{}, false
}

func TestComposeOutOfRangeInOneBracketing(t *testing.T) {
	great, more, less := diagonal(1000000, 1000000, 1000000, 1), diagonal(1000, 1000, 1000, 1), diagonal(1, 1, 1, 1000)
	if f, ok := composedTwice(great, more, less); ok || !isZeroFrame(f) {
		t.Error("the first two are too great", f)
	}
	f, ok := composedBehind(great, more, less)
	wantFrame(t, "the last two are not", f, ok, great, true)
	if f, ok := composedBehind(less, more, great); ok || !isZeroFrame(f) {
		t.Error("the last two are too great", f)
	}
	f, ok = composedTwice(less, more, great)
	wantFrame(t, "the first two are not", f, ok, great, true)
	far, near := withNumber(still(), 10, 1000000), withNumber(still(), 10, -1)
	if f, ok := composedTwice(far, withNumber(still(), 10, 1), near); ok || !isZeroFrame(f) {
		t.Error("too far", f)
	}
	f, ok = composedBehind(far, withNumber(still(), 10, 1), near)
	wantFrame(t, "not too far", f, ok, far, true)
}

// Promise 10, of ways back.
func TestInvertIsTheWayBack(t *testing.T) {
	m := mixer(124)
	backs := 0
	for _, f := range append(m.frames(120), still(), diagonal(1, 2, -3, 4), diagonal(1000000, 1000000, 1000000, 1), diagonal(1, 1, 1, 1000000)) {
		back, ok := wantInverse(t, "drawn", f)
		if !ok {
			continue
		}
		backs++
		for _, pair := range [][2]impl.Frame{{back, f}, {f, back}} {
			got, ok := impl.Compose(pair[0], pair[1])
			wantFrame(t, []any{"there and back", pair}, got, ok, still(), true)
		}
		again, ok := impl.Invert(back)
		wantFrame(t, "the way back of the way back", again, ok, f, true)
		if impl.Handed(back) != impl.Handed(f) {
			t.Error("another hand", f)
		}
	}
	if backs < 400 {
		t.Error("few have an inverse:", backs)
	}
}

func TestInvertByHand(t *testing.T) {
	for _, c := range []struct{ f, want impl.Frame }{
		{still(), still()},
		{diagonal(2, 4, 5, 1), diagonal(10, 5, 4, 20)},
		{diagonal(-2, 4, 5, 1), diagonal(-10, 5, 4, 20)},
		{diagonal(-1, -1, -1, 7), diagonal(-7, -7, -7, 1)},
		{diagonal(1, 1, 1, 3), diagonal(3, 3, 3, 1)},
		{impl.Frame{M: []int64{0, 1, 0, 1, 0, 0, 0, 0, 1}, T: []int64{5, 7, 11}, D: 1}, impl.Frame{M: []int64{0, 1, 0, 1, 0, 0, 0, 0, 1}, T: []int64{-7, -5, -11}, D: 1}},
		{impl.Frame{M: []int64{0, -1, 0, 1, 0, 0, 0, 0, 1}, T: []int64{1, 0, 0}, D: 1}, impl.Frame{M: []int64{0, 1, 0, -1, 0, 0, 0, 0, 1}, T: []int64{0, 1, 0}, D: 1}},
		{impl.Frame{M: []int64{2, 0, 0, 0, 2, 0, 0, 0, 2}, T: []int64{1, 2, 3}, D: 5}, impl.Frame{M: []int64{5, 0, 0, 0, 5, 0, 0, 0, 5}, T: []int64{-1, -2, -3}, D: 2}},
		{impl.Frame{M: []int64{1, 2, 3, 0, 1, 4, 5, 6, 0}, T: []int64{0, 0, 0}, D: 1}, impl.Frame{M: []int64{-24, 18, 5, 20, -15, -4, -5, 4, 1}, T: []int64{0, 0, 0}, D: 1}},
	} {
		got, ok := impl.Invert(c.f)
		wantFrame(t, c.f, got, ok, c.want, true)
	}
}

// A number of the inverse once at its limit, once past it by one: 64 * 15625 is 1000000, 101 * 9901 is 1000001.
func TestInvertAtTheLimits(t *testing.T) {
	tall := func(at int, a, b int64) impl.Frame { return withNumber(withNumber(still(), at, a), 10, b) }
	for _, c := range []struct {
		f    impl.Frame
		fits bool
	}{
		{diagonal(64, 15625, 1, 1), true},
		{diagonal(-64, 15625, 1, 1), true},
		{diagonal(101, 9901, 1, 1), false},
		{diagonal(-101, 9901, 1, 1), false},
		{diagonal(101, 1, -9901, 1), false},
		{diagonal(1000, 1000, 1, 1), true},
		{diagonal(1000, 1000, 1000, 1), true},
		{diagonal(1000, 1001, 1, 1), false},
		{diagonal(999, 1000, 1, 1), true},
		{diagonal(100, 99, 101, 1), true},
		{diagonal(100, 99, 103, 1), false},
		{tall(1, 1000, 1000), true},
		{tall(1, 101, 9901), false},
		{tall(1, -1000, 1000), true},
		{tall(1, -101, 9901), false},
		{tall(7, 101, -9901), false},
		{tall(7, 1000, -1000), true},
		{withNumber(withNumber(still(), 9, 1000000), 11, -1000000), true},
		{impl.Frame{M: []int64{1, 1000, 0, 0, 1, 1000, 0, 0, 1}, T: []int64{0, 0, 0}, D: 1}, true},
		{impl.Frame{M: []int64{1, 101, 0, 0, 1, 9901, 0, 0, 1}, T: []int64{0, 0, 0}, D: 1}, false},
		{impl.Frame{M: []int64{1, -101, 0, 0, 1, 9901, 0, 0, 1}, T: []int64{0, 0, 0}, D: 1}, false},
	} {
		if _, ok := wantInverse(t, "at a limit", c.f); ok != c.fits {
			t.Error(c.f, ok)
		}
	}
	m := mixer(125)
	for _, nine := range determinants(&m) {
		for _, d := range []int64{1, 999999, 1000000} {
			f := impl.Frame{M: nine, T: []int64{m.pick(-1000000, 1000000), -1000000, 1000000}, D: d}
			if plainFrameOk(f) {
				wantInverse(t, "great numbers", f)
			}
		}
	}
	for _, most := range []int64{impl.MaxEntry, -impl.MaxEntry} { // great numbers that are cut down by what they have in common
		f := impl.Frame{M: []int64{-most, most, most, most, -most, most, most, most, -most}, T: []int64{most, most, -most}, D: 1}
		wantInverse(t, "the greatest", f)
		wantInverse(t, "the greatest", withNumber(f, 12, impl.MaxEntry-1))
	}
}

// Promise 10, of hands.
func TestHandedOfACompositionIsTheProduct(t *testing.T) {
	m := mixer(126)
	seen := map[int64]int{}
	list := m.frames(10)
	for _, a := range list {
		sign := impl.Handed(a)
		seen[sign]++
		if sign != int64(bigDeterminant(a.M).Sign()) {
			t.Error(a, sign)
		}
		for _, b := range list {
			if c, ok := impl.Compose(a, b); ok && impl.Handed(c) != impl.Handed(a)*impl.Handed(b) {
				t.Error(a, b, c)
			}
		}
	}
	if seen[1] < 20 || seen[-1] < 20 || len(seen) != 2 {
		t.Error("hands", seen)
	}
	if impl.Handed(still()) != 1 || impl.Handed(diagonal(1, -1, 1, 5)) != -1 || impl.Handed(diagonal(-1, -1, 1, 5)) != 1 || impl.Handed(diagonal(-1, -1, -1, 5)) != -1 {
		t.Error("by hand")
	}
	for _, f := range wrongFrames() {
		if impl.Handed(f) != 0 {
			t.Error("not right", f)
		}
	}
}

func TestMovePlainly(t *testing.T) {
	m := mixer(127)
	const most = impl.MaxEntry
	edges := []int64{-most, 1 - most, -1, 0, 1, most - 1, most}
	for _, f := range append(m.frames(12), still(), diagonal(2, 2, 2, 1), diagonal(1, 1, 1, most)) {
		for range 12 {
			wantPlace(t, f, m.pick(-most, most), m.pick(-most, most), m.pick(-most, most))
			wantPlace(t, f, m.pick(-9, 9), m.pick(-9, 9), m.pick(-9, 9))
			wantPlace(t, f, edges[m.pick(0, 6)], edges[m.pick(0, 6)], edges[m.pick(0, 6)])
		}
		wantPlace(t, f, 0, 0, 0)
	}
	for _, d := range []int64{1, most - 1, most} {
		f := impl.Frame{M: []int64{most, most, most, -most, -most, -most + 1, most, -most, most}, T: []int64{most, -most, most}, D: d}
		if d == most {
			f.T[1] = 1 - most
		}
		if !plainFrameOk(f) {
			t.Fatal(f)
		}
		for _, x := range edges {
			for _, y := range edges {
				for _, z := range edges {
					wantPlace(t, f, x, y, z)
				}
			}
		}
	}
}

func TestMoveByHand(t *testing.T) {
	f := impl.Frame{M: []int64{2, 0, 0, 0, 3, 0, 0, 0, 5}, T: []int64{-2, -3, 5}, D: 6}
	for _, c := range []struct {
		x, y, z int64
		want    impl.Place
	}{
		{1, 1, -1, impl.Place{D: 1}},
		{0, 0, 0, impl.Place{X: -2, Y: -3, Z: 5, D: 6}},
		{4, 3, 5, impl.Place{X: 1, Y: 1, Z: 5, D: 1}},
		{2, 3, 1, impl.Place{X: 1, Y: 3, Z: 5, D: 3}},
		{-2, 1, -1, impl.Place{X: -1, D: 1}},
		{7, 1, -1, impl.Place{X: 2, D: 1}},
		{0, 1, -1, impl.Place{X: -1, D: 3}},
	} {
		if got := impl.Move(f, c.x, c.y, c.z); got != c.want {
			t.Error(c.x, c.y, c.z, got)
		}
	}
	if impl.Move(still(), 0, 0, 0) != (impl.Place{D: 1}) || impl.Move(diagonal(1, 1, 1, 1000000), 0, 0, 0) != (impl.Place{D: 1}) {
		t.Error("the point 0, 0, 0")
	}
	great := diagonal(1, 1, 1, 999983)
	if impl.Move(great, 999983, 0, -999983) != (impl.Place{X: 1, Z: -1, D: 1}) || impl.Move(great, 999983, 1, 0) != (impl.Place{X: 999983, Y: 1, D: 999983}) {
		t.Error("a great divisor")
	}
}

func TestMoveAtTheLimits(t *testing.T) {
	f := impl.Frame{M: []int64{1, 2, 3, 4, 5, 6, 7, 8, 10}, T: []int64{1, 1, 1}, D: 3}
	for at := range 3 {
		for _, number := range append(entryEdges(), 0, 999999, -999999) {
			for _, other := range []int64{0, 7, impl.MaxEntry, -impl.MaxEntry} {
				p := [3]int64{other, other, other}
				p[at] = number
				if number >= -1000000 && number <= 1000000 {
					wantPlace(t, f, p[0], p[1], p[2])
				} else if got := impl.Move(f, p[0], p[1], p[2]); got != (impl.Place{}) {
					t.Error(p, got)
				}
			}
		}
	}
}

// What a composition makes of a point is what both make of it one after the other.
func TestMoveOfACompositionAndBack(t *testing.T) {
	m := mixer(128)
	for range 500 {
		a, b := m.frame(9, 4), m.shear(3, 4)
		x, y, z := m.pick(-50, 50), m.pick(-50, 50), m.pick(-50, 50)
		c, ok := impl.Compose(a, b)
		first := impl.Move(b, x, y, z)
		if !ok || first.D != 1 || impl.Move(c, x, y, z) != impl.Move(a, first.X, first.Y, first.Z) {
			t.Fatal(a, b, x, y, z)
		}
		back, ok := impl.Invert(b)
		if !ok || impl.Move(back, first.X, first.Y, first.Z) != (impl.Place{X: x, Y: y, Z: z, D: 1}) {
			t.Fatal(b, x, y, z)
		}
	}
}

func TestFramesAreNewMemory(t *testing.T) {
	m := mixer(129)
	for _, f := range append(m.frames(6), still()) {
		was := cloneFrame(f)
		one := impl.Frame{M: roomy(f.M, 77), T: roomy(f.T, 78), D: f.D}
		two := impl.Frame{M: roomy(still().M, 77), T: roomy(still().T, 78), D: 1}
		answers := frameAnswers(one, two)
		again := frameAnswers(one, two)
		if !stays(one.M, was.M, 77) || !stays(one.T, was.T, 78) || !stays(two.M, still().M, 77) || !stays(two.T, still().T, 78) {
			t.Error("an argument changes", was)
		}
		want := fmt.Sprint(again)
		for _, g := range answers {
			spoil(g.M)
			spoil(g.T)
		}
		for _, list := range [][]int64{one.M, one.T, two.M, two.T} {
			spoil(list)
		}
		if got := fmt.Sprint(again); got != want {
			t.Errorf("shared memory: %s, was %s", got, want)
		}
		for i, g := range again { // nor do two lists of one answer, or of two, share any
			spoil(g.M)
			if slices.Contains(g.T, -12345) {
				t.Error("M and T are one", i)
			}
			spoil(g.T)
			for _, later := range again[i+1:] {
				if slices.Contains(later.M, -12345) || slices.Contains(later.T, -12345) {
					t.Error("two answers are one", i)
				}
			}
		}
	}
}

func frameAnswers(one, two impl.Frame) []impl.Frame {
	ab, _ := impl.Compose(one, two)
	ba, _ := impl.Compose(two, one)
	twice, _ := impl.Compose(one, one)
	back, _ := impl.Invert(one)
	same, _ := impl.Invert(two)
	impl.FrameOk(one)
	impl.SameFrame(one, two)
	impl.Handed(one)
	impl.Move(one, 1, 2, 3)
	return []impl.Frame{ab, ba, twice, back, same}
}

// The references themselves, against each other.
func TestPlainWaysBack(t *testing.T) {
	m := mixer(130)
	for _, f := range m.frames(10) {
		back, ok := affineOf(f).back()
		if !ok {
			t.Fatal(f)
		}
		got, ok := back.behind(affineOf(f)).frame()
		if !ok || !sameNumbers(got, still()) {
			t.Fatal(f, got)
		}
		if here, ok := affineOf(f).frame(); !ok || !sameNumbers(here, f) {
			t.Fatal(f, here)
		}
	}
	if bigDeterminant([]int64{1, 2, 3, 0, 1, 4, 5, 6, 0}).Cmp(big.NewInt(1)) != 0 {
		t.Error("a determinant")
	}
}
