package tests

import (
	"math"
	"math/big"
	"testing"

	"loop.example/g00050/impl"
)

// cxParts are parts of complex numbers, none of them NaN.
func cxParts() []float64 {
	return []float64{0, minusNought, 1, -1, 0.1, -3, 1e16, -1e300, 5e-324, math.MaxFloat64, 1 + 0x1p-30, infinite, -infinite}
}

// cxNumbers are the complex numbers of those parts and of NaN.
func cxNumbers() []impl.Cx {
	var list []impl.Cx
	parts := append(cxParts(), someNaN)
	for _, re := range parts {
		for _, im := range parts {
			list = append(list, impl.Cx{Re: re, Im: im})
		}
	}
	return list
}

func hasNaN(a impl.Cx) bool {
	return math.IsNaN(a.Re) || math.IsNaN(a.Im)
}

// rounded does one operation by the library's big numbers, which no compiler joins with the next one (for results that have a leading one).
func rounded(op func(z, x, y *big.Float) *big.Float, a, b float64) float64 {
	z := new(big.Float).SetPrec(53).SetMode(big.ToNearestEven)
	f, _ := op(z, big.NewFloat(a), big.NewFloat(b)).Float64()
	return f
}

func times(a, b float64) float64 { return rounded((*big.Float).Mul, a, b) }

func plus(a, b float64) float64 { return rounded((*big.Float).Add, a, b) }

func less(a, b float64) float64 { return rounded((*big.Float).Sub, a, b) }

// Promise 2: products.

func TestCxMulEitherWay(t *testing.T) {
	for _, a := range cxNumbers() {
		for _, b := range cxNumbers() {
			got := impl.CxMul(a, b)
			if !hasNaN(a) && !hasNaN(b) && !oneCx(got, impl.CxMul(b, a)) {
				t.Fatalf("%v and %v: %v and %v", a, b, got, impl.CxMul(b, a))
			}
			want := impl.Cx{Re: float64(a.Re*b.Re) - float64(a.Im*b.Im), Im: float64(a.Re*b.Im) + float64(a.Im*b.Re)}
			if !oneCx(got, want) {
				t.Fatalf("CxMul(%v, %v) is %v, not %v", a, b, got, want)
			}
		}
	}
}

func TestCxMulOfKnownNumbers(t *testing.T) {
	for _, c := range []struct{ a, b, want impl.Cx }{
		{impl.Cx{Re: 1, Im: 2}, impl.Cx{Re: 3, Im: -1}, impl.Cx{Re: 5, Im: 5}},
		{impl.Cx{Im: 1}, impl.Cx{Im: 1}, impl.Cx{Re: -1}},
		{impl.Cx{Re: minusNought}, impl.Cx{Re: 1}, impl.Cx{Re: minusNought}},
		{impl.Cx{Re: minusNought, Im: minusNought}, impl.Cx{Re: 1, Im: 1}, impl.Cx{Re: 0, Im: minusNought}},
		{impl.Cx{Re: infinite}, impl.Cx{Re: 1}, impl.Cx{Re: infinite, Im: someNaN}},
		{impl.Cx{Re: infinite, Im: infinite}, impl.Cx{Re: 1, Im: 1}, impl.Cx{Re: someNaN, Im: infinite}},
		{impl.Cx{Re: 1e200}, impl.Cx{Re: 1e200, Im: -1e200}, impl.Cx{Re: infinite, Im: -infinite}},
		{impl.Cx{Re: someNaN, Im: 1}, impl.Cx{Re: 2, Im: 3}, impl.Cx{Re: someNaN, Im: someNaN}},
		// A product that is joined with the sum behind it would leave the sixtieth bit.
		{impl.Cx{Re: 1 + 0x1p-30, Im: 1 + 0x1p-29}, impl.Cx{Re: 1 + 0x1p-30, Im: 1}, impl.Cx{Re: 0, Im: 1 + 0x1p-30 + (1 + 0x1p-29 + 0x1p-30)}},
		{impl.Cx{Re: 1 + 0x1p-29, Im: 1 + 0x1p-30}, impl.Cx{Re: 1, Im: 1 + 0x1p-30}, impl.Cx{Re: 0, Im: 2 + 0x1p-28}},
	} {
		if got := impl.CxMul(c.a, c.b); !oneCx(got, c.want) {
			t.Errorf("CxMul(%v, %v) is %v, not %v", c.a, c.b, got, c.want)
		}
	}
}

// Each operation is rounded by itself: many numbers with full fractions against numbers that can't be joined.
func TestCxRoundsEachOperation(t *testing.T) {
	m := mixer(4)
	for range 3000 {
		a, b := impl.Cx{Re: m.small(), Im: m.small()}, impl.Cx{Re: m.small(), Im: m.small()}
		want := impl.Cx{Re: less(times(a.Re, b.Re), times(a.Im, b.Im)), Im: plus(times(a.Re, b.Im), times(a.Im, b.Re))}
		if got := impl.CxMul(a, b); got != want {
			t.Fatalf("CxMul(%v, %v) is %v, not %v", a, b, got, want)
		}
		if got, want := impl.CxSize(a), plus(times(a.Re, a.Re), times(a.Im, a.Im)); got != want {
			t.Fatalf("CxSize(%v) is %v, not %v", a, got, want)
		}
		if got, want := impl.CxAdd(a, b), (impl.Cx{Re: plus(a.Re, b.Re), Im: plus(a.Im, b.Im)}); got != want {
			t.Fatalf("CxAdd(%v, %v) is %v, not %v", a, b, got, want)
		}
	}
}

func TestCxSize(t *testing.T) {
	for _, c := range []struct {
		a    impl.Cx
		want float64
	}{
		{impl.Cx{}, 0}, {impl.Cx{Re: minusNought, Im: minusNought}, 0}, {impl.Cx{Re: 3, Im: -4}, 25}, {impl.Cx{Re: 1e200}, infinite},
		{impl.Cx{Re: 1e-200, Im: 2}, 4}, {impl.Cx{Re: -infinite, Im: 1}, infinite}, {impl.Cx{Re: infinite, Im: someNaN}, someNaN}, {impl.Cx{Re: someNaN}, someNaN},
	} {
		if got := impl.CxSize(c.a); !oneValue(got, c.want) {
			t.Errorf("CxSize(%v) is %v, not %v", c.a, got, c.want)
		}
	}
}

func TestCxAdd(t *testing.T) {
	for _, c := range []struct{ a, b, want impl.Cx }{
		{impl.Cx{Re: 1, Im: 2}, impl.Cx{Re: 3, Im: -5}, impl.Cx{Re: 4, Im: -3}},
		{impl.Cx{Re: minusNought, Im: minusNought}, impl.Cx{Re: minusNought, Im: 0}, impl.Cx{Re: minusNought, Im: 0}},
		{impl.Cx{Re: 1, Im: -1}, impl.Cx{Re: -1, Im: 1}, impl.Cx{}},
		{impl.Cx{Re: infinite, Im: infinite}, impl.Cx{Re: -infinite, Im: 1}, impl.Cx{Re: someNaN, Im: infinite}},
		{impl.Cx{Re: math.MaxFloat64, Im: 1}, impl.Cx{Re: math.MaxFloat64, Im: someNaN}, impl.Cx{Re: infinite, Im: someNaN}},
		{impl.Cx{Re: 1e16, Im: 0x1p53}, impl.Cx{Re: 1, Im: 3}, impl.Cx{Re: 1e16, Im: 0x1p53 + 4}},
	} {
		if got := impl.CxAdd(c.a, c.b); !oneCx(got, c.want) {
			t.Errorf("CxAdd(%v, %v) is %v, not %v", c.a, c.b, got, c.want)
		}
	}
}

// Promise 2: turns.

// quarters are turns around 0, and at both ends of int64.
func quarters() []int64 {
	var list []int64
	for k := int64(-9); k <= 9; k++ {
		list = append(list, k)
	}
	for k := range int64(6) {
		list = append(list, math.MinInt64+k, math.MaxInt64-k)
	}
	return list
}

// turnedOnce is the quarter turn, with signs turned by the library.
func turnedOnce(a impl.Cx) impl.Cx {
	return impl.Cx{Re: math.Copysign(a.Im, signAgainst(a.Im)), Im: a.Re}
}

func signAgainst(x float64) float64 {
	if math.Signbit(x) {
		return 1
	}
	return -1
}

func TestCxTurnQuarterByQuarter(t *testing.T) {
	for _, a := range cxNumbers() {
		for _, k := range quarters() {
			want := a
			for range (k%4 + 4) % 4 {
				want = turnedOnce(want)
			}
			if got := impl.CxTurn(a, k); !oneCx(got, want) {
				t.Fatalf("CxTurn(%v, %d) is %v, not %v", a, k, got, want)
			}
		}
	}
}

func TestCxTurnOfNoughts(t *testing.T) {
	plain := impl.Cx{}
	for _, c := range []struct {
		k    int64
		want impl.Cx
	}{
		{0, plain}, {1, impl.Cx{Re: minusNought}}, {2, impl.Cx{Re: minusNought, Im: minusNought}}, {3, impl.Cx{Im: minusNought}}, {4, plain},
		{-1, impl.Cx{Im: minusNought}}, {-2, impl.Cx{Re: minusNought, Im: minusNought}}, {-3, impl.Cx{Re: minusNought}}, {-4, plain},
		{math.MinInt64, plain}, {math.MaxInt64, impl.Cx{Im: minusNought}},
	} {
		if got := impl.CxTurn(plain, c.k); !oneCx(got, c.want) {
			t.Errorf("the zero Cx turned by %d is %v, not %v", c.k, got, c.want)
		}
	}
	if got := impl.CxTurn(impl.Cx{Re: 3, Im: minusNought}, 3); !oneCx(got, impl.Cx{Re: minusNought, Im: -3}) {
		t.Error(got)
	}
}

func TestCxTurnsAddUp(t *testing.T) {
	for _, a := range cxNumbers() {
		for _, k := range quarters() {
			for _, n := range quarters() {
				// A sum that goes round is off by a multiple of 4, so it holds there too.
				if got, want := impl.CxTurn(impl.CxTurn(a, k), n), impl.CxTurn(a, k+n); !oneCx(got, want) {
					t.Fatalf("%v turned by %d and by %d is %v, not %v", a, k, n, got, want)
				}
			}
		}
	}
}

// Promise 2: the sum in halves.

// cxList has n numbers of which no other order of adding gives the same sum, as a rule.
func cxList(n int) []impl.Cx {
	m := mixer(n)
	list := make([]impl.Cx, n)
	for i := range list {
		list[i] = impl.Cx{Re: m.small() * math.Pow(10, float64(i%17)), Im: m.small()}
	}
	return list
}

// halvesBy adds up without slices of the list, from one place to ahead of another.
func halvesBy(list []impl.Cx, from, to int) impl.Cx {
	if from == to {
		return impl.Cx{}
	}
	if from+1 == to {
		return list[from]
	}
	middle := from + (to-from)/2
	a, b := halvesBy(list, from, middle), halvesBy(list, middle, to)
	return impl.Cx{Re: a.Re + b.Re, Im: a.Im + b.Im}
}

func sumLengths() []int {
	list := []int{100, 1023, 1024, 1025, 2047, 2048, 2049, 4095, 4096}
	for n := range 40 {
		list = append(list, n)
	}
	return list
}

func TestCxSumInHalves(t *testing.T) {
	for _, n := range sumLengths() {
		list := cxList(n)
		got := impl.CxSum(list)
		if want := halvesBy(list, 0, n); !oneCx(got, want) {
			t.Fatalf("the sum of %d numbers is %v, not %v", n, got, want)
		}
		if n > 1 && !oneCx(got, impl.CxAdd(impl.CxSum(list[:n/2]), impl.CxSum(list[n/2:]))) {
			t.Fatalf("the sum of %d numbers is not that of its halves", n)
		}
	}
}

func TestCxSumOfKnownLists(t *testing.T) {
	huge := impl.Cx{Re: 1e16}
	one := impl.Cx{Re: 1}
	for _, c := range []struct {
		list []impl.Cx
		want impl.Cx
	}{
		{nil, impl.Cx{}}, {[]impl.Cx{}, impl.Cx{}},
		{[]impl.Cx{{Re: minusNought, Im: minusNought}}, impl.Cx{Re: minusNought, Im: minusNought}},
		{[]impl.Cx{{Re: someNaN, Im: infinite}}, impl.Cx{Re: someNaN, Im: infinite}},
		{[]impl.Cx{{Re: minusNought, Im: minusNought}, {Re: minusNought, Im: minusNought}}, impl.Cx{Re: minusNought, Im: minusNought}},
		{[]impl.Cx{{Re: 1, Im: 2}, {Re: 3, Im: 4}}, impl.Cx{Re: 4, Im: 6}},
		// Of three the first half is the first number alone.
		{[]impl.Cx{huge, one, one}, impl.Cx{Re: 1e16 + 2}},
		{[]impl.Cx{one, one, huge}, impl.Cx{Re: 1e16}},
		{[]impl.Cx{huge, one, {Re: -1e16}, one}, impl.Cx{}},
		{[]impl.Cx{one, one, huge, {Re: -1e16}}, impl.Cx{Re: 2}},
		{[]impl.Cx{{Re: infinite}, {Re: -infinite, Im: 1}}, impl.Cx{Re: someNaN, Im: 1}},
	} {
		if got := impl.CxSum(c.list); !oneCx(got, c.want) {
			t.Errorf("CxSum(%v) is %v, not %v", c.list, got, c.want)
		}
	}
}

func TestCxSumAtItsLimit(t *testing.T) {
	if impl.MaxList != 4096 {
		t.Fatal(impl.MaxList)
	}
	ones := make([]impl.Cx, 4098)
	for i := range ones {
		ones[i] = impl.Cx{Re: 1, Im: -2}
	}
	for n, want := range map[int]impl.Cx{4095: {Re: 4095, Im: -8190}, 4096: {Re: 4096, Im: -8192}, 4097: {}, 4098: {}} {
		if got := impl.CxSum(ones[:n]); !oneCx(got, want) {
			t.Errorf("the sum of %d numbers is %v, not %v", n, got, want)
		}
	}
}

// Promise 21: the list and the spare room behind it come out unchanged, and the room is not read.
func TestCxSumLeavesTheListAlone(t *testing.T) {
	for _, n := range []int{0, 1, 2, 3, 7, 4096, 4097} {
		room := append(cxList(n), impl.Cx{Re: someNaN, Im: 7}, impl.Cx{Re: -1e300, Im: infinite}, impl.Cx{Re: minusNought})
		before := append([]impl.Cx(nil), room...)
		got := impl.CxSum(room[:n])
		if want := impl.CxSum(append([]impl.Cx(nil), room[:n]...)); !oneCx(got, want) {
			t.Errorf("%d numbers with room behind them: %v, not %v", n, got, want)
		}
		for i := range room {
			if !oneCx(room[i], before[i]) {
				t.Errorf("%d numbers: place %d was written", n, i)
			}
		}
	}
}

func TestCxSame(t *testing.T) {
	for _, a := range cxNumbers() {
		for _, b := range cxNumbers() {
			if got := impl.CxSame(a, b); got != oneCx(a, b) {
				t.Fatalf("CxSame(%v, %v) is %v", a, b, got)
			}
		}
	}
	loud := math.Float64frombits(0xfff0000000000001)
	for _, c := range []struct {
		a, b impl.Cx
		want bool
	}{
		{impl.Cx{}, impl.Cx{}, true}, {impl.Cx{Re: minusNought}, impl.Cx{}, false}, {impl.Cx{Im: minusNought}, impl.Cx{}, false},
		{impl.Cx{Re: 1, Im: minusNought}, impl.Cx{Re: 1}, false}, {impl.Cx{Re: loud, Im: 1}, impl.Cx{Re: someNaN, Im: 1}, true},
		{impl.Cx{Re: loud, Im: 1}, impl.Cx{Re: someNaN, Im: 2}, false}, {impl.Cx{Re: 1, Im: loud}, impl.Cx{Re: 1, Im: 1}, false},
		{impl.Cx{Re: loud, Im: minusNought}, impl.Cx{Re: loud}, false}, {impl.Cx{Re: 1, Im: 2}, impl.Cx{Re: 2, Im: 1}, false},
	} {
		if impl.CxSame(c.a, c.b) != c.want || impl.CxSame(c.b, c.a) != c.want {
			t.Errorf("CxSame(%v, %v) is not %v", c.a, c.b, c.want)
		}
	}
}

// Promise 21: whatever is given, each function of the chapter answers.
func TestChapter1AnswersEveryArgument(t *testing.T) {
	m := mixer(5)
	for range 20000 {
		x, y := math.Float64frombits(m.next()), math.Float64frombits(m.next())
		if m.next()&7 == 0 {
			x = math.Float64frombits(m.next() | 0x7ff<<52)
		}
		a, b := impl.Cx{Re: x, Im: y}, impl.Cx{Re: y, Im: x}
		impl.ToBits(x)
		impl.FromBits(m.next())
		impl.ShortBits(x)
		impl.FromShort(uint32(m.next()))
		impl.OrderFloats(x, y)
		impl.CxMul(impl.CxAdd(a, b), impl.CxTurn(b, int64(m.next())))
		impl.CxSize(a)
		if !impl.CxSame(impl.CxSum([]impl.Cx{a, b}), impl.CxAdd(a, b)) {
			t.Fatal(a, b)
		}
	}
}
