package tests

import (
	"math"

	"loop.example/g00050/impl"
)

var (
	minusNought = math.Copysign(0, -1)
	infinite    = math.Inf(1)
	someNaN     = math.NaN()
)

// oneValue says by the library's own bits what the document calls one value.
func oneValue(a, b float64) bool {
	if math.IsNaN(a) || math.IsNaN(b) {
		return math.IsNaN(a) && math.IsNaN(b)
	}
	return math.Float64bits(a) == math.Float64bits(b)
}

func oneCx(a, b impl.Cx) bool {
	return oneValue(a.Re, b.Re) && oneValue(a.Im, b.Im)
}

// mixer makes numbers that look thrown but are the same in every run.
type mixer uint64

func (m *mixer) next() uint64 {
	*m += 0x9e3779b97f4a7c15
	z := uint64(*m)
	z = (z ^ z>>30) * 0xbf58476d1ce4e5b9
	z = (z ^ z>>27) * 0x94d049bb133111eb
	return z ^ z>>31
}

// small is a float with a full fraction and an exponent near 0.
func (m *mixer) small() float64 {
	b := m.next()
	return math.Float64frombits(b&(1<<63|1<<52-1) | (1020+b>>52&7)<<52)
}

// wideFractions are the edges of 52 bits of fraction.
func wideFractions() []uint64 {
	return []uint64{0, 1, 2, 3, 1 << 28, 1<<28 + 1, 1 << 29, 1<<51 - 1, 1 << 51, 1<<51 + 1, 0x5555555555555, 0xaaaaaaaaaaaaa, 1<<52 - 2, 1<<52 - 1}
}

// finiteBits are bits of no NaN and of no infinite float: of each exponent the edges, with both signs.
func finiteBits() []uint64 {
	var list []uint64
	for exponent := uint64(0); exponent < 0x7ff; exponent++ {
		for _, fraction := range wideFractions() {
			list = append(list, exponent<<52|fraction, 1<<63|exponent<<52|fraction)
		}
	}
	for i := range 52 { // numbers with no leading one, one bit each
		list = append(list, 1<<i, 1<<63|1<<i)
	}
	m := mixer(1)
	for range 20000 {
		if b := m.next(); b>>52&0x7ff != 0x7ff {
			list = append(list, b)
		}
	}
	return list
}

// wholeBits are finiteBits and both infinities.
func wholeBits() []uint64 {
	return append(finiteBits(), 0x7ff<<52, 0xfff<<52)
}

// wideNaNs are bits of NaNs of either sign, loud and quiet.
func wideNaNs() []uint64 {
	var list []uint64
	for i := range 52 {
		list = append(list, 0x7ff<<52|1<<i, 0xfff<<52|1<<i)
	}
	return append(list, 0x7fffffffffffffff, 0xffffffffffffffff, 0x7ff8000000000001, 0xfff8000000000001, 0x7ff0deadbeef0001)
}

// shortPatterns are all 32 bits that matter: of each exponent the edges of the fraction, with both signs.
func shortPatterns() []uint32 {
	var list []uint32
	for exponent := range uint32(256) {
		for _, fraction := range []uint32{0, 1, 2, 3, 1<<22 - 1, 1 << 22, 1<<22 + 1, 0x2aaaaa, 0x555555, 1<<23 - 2, 1<<23 - 1} {
			list = append(list, exponent<<23|fraction, 1<<31|exponent<<23|fraction)
		}
	}
	m := mixer(2)
	for range 20000 {
		list = append(list, uint32(m.next()))
	}
	return list
}

func isShortNaN(b uint32) bool {
	return b&0x7fffffff > 0x7f800000
}
