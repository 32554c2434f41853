package tests

import (
	"math"
	"slices"
	"testing"

	"loop.example/g00050/impl"
)

func waveLengths() []int64 { return []int64{1, 2, 4, 8, 16} }

// noWaveLengths are numbers that are no length of waves, some of them with bits or products that look like one.
func noWaveLengths() []int64 {
	list := []int64{leastInt, leastInt + 1, -1 << 32, 1 << 32, 1<<32 + 1, 1<<32 + 16, 1 << 62, mostInt - 1, mostInt, 64, 128, 256, 4096, 4097}
	for n := int64(-40); n <= 40; n++ {
		if !slices.Contains(waveLengths(), n) {
			list = append(list, n)
		}
	}
	return list
}

// The quarter cosines by their bits, so that no reading of digits stands between.
const (
	bitsCosine1 = 0x3fed906bcf328d46
	bitsCosine2 = 0x3fe6a09e667f3bcd
	bitsCosine3 = 0x3fd87de2a6aea963
)

func quarterCosine(j int64) float64 {
	return []float64{1, math.Float64frombits(bitsCosine1), math.Float64frombits(bitsCosine2), math.Float64frombits(bitsCosine3), 0}[j]
}

// plainFactor is the document's rule for a length of waves.
func plainFactor(n, k int64) impl.Cx {
	return plainFactorOf(16 / n * bigModulo(k, n))
}

func plainFactorOf(j int64) impl.Cx {
	if j > 4 {
		ahead := plainFactorOf(j - 4)
		return impl.Cx{Re: ahead.Im, Im: turnedSign(ahead.Re)}
	}
	factor := impl.Cx{Re: quarterCosine(j), Im: quarterCosine(4 - j)}
	if factor.Im != 0 {
		factor.Im = turnedSign(factor.Im)
	}
	return factor
}

// turnedSign works on the bits, so that no nought loses its sign on the way.
func turnedSign(x float64) float64 {
	return math.Float64frombits(math.Float64bits(x) ^ 1<<63)
}

// roundedProduct rounds the product by itself, however it is used.
func roundedProduct(a, b float64) float64 { return float64(a * b) }

func plainProduct(a, b impl.Cx) impl.Cx {
	return impl.Cx{Re: roundedProduct(a.Re, b.Re) - roundedProduct(a.Im, b.Im), Im: roundedProduct(a.Re, b.Im) + roundedProduct(a.Im, b.Re)}
}

func plainSum(a, b impl.Cx) impl.Cx {
	return impl.Cx{Re: a.Re + b.Re, Im: a.Im + b.Im}
}

func plainSize(a impl.Cx) float64 {
	return roundedProduct(a.Re, a.Re) + roundedProduct(a.Im, a.Im)
}

// plainTimes is the number with both parts times a factor.
func plainTimes(a impl.Cx, factor float64) impl.Cx {
	return impl.Cx{Re: roundedProduct(a.Re, factor), Im: roundedProduct(a.Im, factor)}
}

func turnedTwice(a impl.Cx) impl.Cx {
	return impl.Cx{Re: turnedSign(a.Re), Im: turnedSign(a.Im)}
}

// plainWaves is the document's rule for a list with a length of waves, in its own order.
func plainWaves(list []impl.Cx) []impl.Cx {
	n := len(list)
	if n == 1 {
		return []impl.Cx{list[0]}
	}
	var evens, odds []impl.Cx
	for i := 0; i < n; i += 2 {
		evens, odds = append(evens, list[i]), append(odds, list[i+1])
	}
	e, o := plainWaves(evens), plainWaves(odds)
	out := make([]impl.Cx, n)
	for k := range n / 2 {
		turned := plainProduct(plainFactor(int64(n), int64(k)), o[k])
		out[k] = plainSum(e[k], turned)
		out[k+n/2] = plainSum(e[k], turnedTwice(turned))
	}
	return out
}

func plainBackWaves(list []impl.Cx) []impl.Cx {
	out := plainWaves(imTurned(list))
	for i, v := range imTurned(out) {
		out[i] = impl.Cx{Re: v.Re / float64(len(list)), Im: v.Im / float64(len(list))}
	}
	return out
}

func imTurned(list []impl.Cx) []impl.Cx {
	var out []impl.Cx
	for _, v := range list {
		out = append(out, impl.Cx{Re: v.Re, Im: turnedSign(v.Im)})
	}
	return out
}

// edgeFloats are both noughts, both infinities, NaN, the greatest and the least floats, and some between.
func edgeFloats() []float64 {
	list := []float64{0, 1, 0.1, 3, 1e16, 0x1p-1022, math.SmallestNonzeroFloat64, 3 * math.SmallestNonzeroFloat64, 1e-300, 1e300, math.MaxFloat64 / 2, math.MaxFloat64, infinite}
	for _, x := range slices.Clone(list) {
		list = append(list, -x)
	}
	return append(list, someNaN)
}

// edgeCxs are all pairs of edgeFloats.
func edgeCxs() []impl.Cx {
	var list []impl.Cx
	for _, re := range edgeFloats() {
		for _, im := range edgeFloats() {
			list = append(list, impl.Cx{Re: re, Im: im})
		}
	}
	return list
}

// noughtsAndOnes are the parts whose sums and products show what becomes of a nought's sign.
func noughtsAndOnes() []float64 { return []float64{0, minusNought, 1, -1} }

// cxs are so many numbers whose parts are told one by one.
func cxs(n int, part func() float64) []impl.Cx {
	list := make([]impl.Cx, n)
	for i := range list {
		list[i] = impl.Cx{Re: part(), Im: part()}
	}
	return list
}

func (m *mixer) among(list []float64) float64 {
	return list[m.pick(0, int64(len(list)-1))]
}

// wild is a float of any bits, now and then one of the edges.
func (m *mixer) wild() float64 {
	if m.pick(1, 4) == 1 {
		return m.among(edgeFloats())
	}
	return math.Float64frombits(m.next())
}

// whole is a whole number of at most most in size, often an end of that, a nought of either sign or a one.
func (m *mixer) whole(most int64) float64 {
	if m.pick(1, 2) == 1 {
		return m.among([]float64{float64(most), -float64(most), 0, minusNought, 1, -1})
	}
	return float64(m.pick(-most, most))
}

func sameCxs(a, b []impl.Cx) bool {
	return slices.EqualFunc(a, b, oneCx)
}

func wantCxs(t *testing.T, what any, got, want []impl.Cx) {
	t.Helper()
	if !sameCxs(got, want) {
		t.Errorf("%v: %v, want %v", what, got[:min(len(got), 20)], want[:min(len(want), 20)])
	}
}

func wantFloats(t *testing.T, what any, got, want []float64) {
	t.Helper()
	if !slices.EqualFunc(got, want, oneValue) {
		t.Errorf("%v: %d numbers %v, want %d %v", what, len(got), got[:min(len(got), 20)], len(want), want[:min(len(want), 20)])
	}
}

func wantOneCx(t *testing.T, what any, got, want impl.Cx) {
	t.Helper()
	if !oneCx(got, want) {
		t.Errorf("%v: %v, want %v", what, got, want)
	}
}
