package impl

import (
	"cmp"
	"math"
)

const MaxList = 4096

const (
	signBit         uint64 = 1 << 63
	infinityBits    uint64 = 0x7ff0000000000000
	nanBits         uint64 = 0x7ff8000000000001
	wideFraction           = 52
	wideBias               = 1023
	leastWithLead          = 0x1p-1022
	shortInfinity   uint32 = 0x7f800000
	shortNaN        uint32 = 0x7fc00001
	shortFraction          = 23
	shortBias              = 127
	fractionDropped        = wideFraction - shortFraction
)

type Cx struct {
	Re float64
	Im float64
}

// cxBits holds a complex number so that == asks for one value.
type cxBits struct {
	re uint64
	im uint64
}

func ToBits(x float64) uint64 {
	if math.IsNaN(x) {
		return nanBits
	}
	if hasMinus(x) {
		return signBit | bitsOfSize(-x)
	}
	return bitsOfSize(x)
}

// hasMinus divides because comparing alone can't tell the two noughts apart.
func hasMinus(x float64) bool {
	return x < 0 || 1/x < 0
}

// bitsOfSize wants a float that is neither NaN nor has a minus.
func bitsOfSize(x float64) uint64 {
	if x > math.MaxFloat64 {
		return infinityBits
	}
	if x < leastWithLead {
		// In two steps, because 2 to the power 1074 is no float.
		return uint64(x * 0x1p537 * 0x1p537)
	}
	exponent, lead := splitPower(x)
	significand := uint64(lead * (1 << wideFraction))
	return uint64(exponent+wideBias)<<wideFraction | significand&(1<<wideFraction-1)
}

// splitPower parts x, which is finite and at least leastWithLead, into a power
// of two and a factor from 1 to below 2. Every step of it is exact.
func splitPower(x float64) (int64, float64) {
	exponent := int64(0)
	if x < 1 {
		// So that the loop has to look for powers above 1 alone.
		x, exponent = x*0x1p1022, -1022
	}
	for i := range 10 {
		step := int64(512) >> i
		if power := powerOfTwo(step); x >= power {
			x, exponent = x/power, exponent+step
		}
	}
	return exponent, x
}

// powerOfTwo is exact for every k whose power is a float: from -1074 to 1023.
func powerOfTwo(k int64) float64 {
	power, base := 1.0, 2.0
	if k < 0 {
		k, base = -k, 0.5
	}
	for i := range 11 {
		if k>>i&1 == 1 {
			power *= base
		}
		base *= base
	}
	return power
}

func FromBits(b uint64) float64 {
	return withSign(b>>63 == 1, sizeOfBits(b&^signBit, wideFraction, wideBias))
}

func withSign(minus bool, size float64) float64 {
	if minus {
		return -size
	}
	return size
}

// sizeOfBits reads bits without their sign: an exponent, and below it a
// fraction of so many bits. A significand and a power of two never need
// rounding when they are multiplied here.
func sizeOfBits(b uint64, fractionBits int64, bias int64) float64 {
	exponent := int64(b >> fractionBits)
	fraction := b & (1<<fractionBits - 1)
	least := 1 - bias - fractionBits
	switch {
	case exponent > 2*bias && fraction != 0:
		return math.NaN()
	case exponent > 2*bias:
		return math.Inf(1)
	case exponent == 0:
		return float64(fraction) * powerOfTwo(least)
	}
	return float64(fraction|1<<fractionBits) * powerOfTwo(least+exponent-1)
}

func ShortBits(x float64) uint32 {
	if math.IsNaN(x) {
		return shortNaN
	}
	b := ToBits(x)
	return uint32(b>>63)<<31 | shortOfSize(b&^signBit)
}

// shortOfSize rounds the bits of a float that is neither NaN nor has a minus.
// It works on whole numbers because the language leaves open what a float32
// becomes that can't hold the value.
func shortOfSize(b uint64) uint32 {
	exponent := int64(b>>wideFraction) - wideBias
	// What has no leading one is given one: it is far too small to matter.
	significand := b&(1<<wideFraction-1) | 1<<wideFraction
	if exponent > shortBias {
		return shortInfinity
	}
	const leastExponent = 1 - shortBias
	if exponent < leastExponent {
		return uint32(dropBits(significand, fractionDropped+leastExponent-exponent))
	}
	// Added, not joined: the leading one, or a carry out of the fraction, raises
	// the exponent by itself, at the top to that of infinity.
	return uint32(exponent-leastExponent)<<shortFraction + uint32(dropBits(significand, fractionDropped))
}

// dropBits is the nearest whole number to n divided by 2 to the power count
// (count above 0), of two the even one.
func dropBits(n uint64, count int64) uint64 {
	if count > 63 {
		return 0
	}
	kept, rest, half := n>>count, n&(1<<count-1), uint64(1)<<(count-1)
	if rest > half || rest == half && kept&1 == 1 {
		return kept + 1
	}
	return kept
}

func FromShort(b uint32) float64 {
	return withSign(b>>31 == 1, sizeOfBits(uint64(b&^(1<<31)), shortFraction, shortBias))
}

func OrderFloats(a float64, b float64) int64 {
	return int64(cmp.Compare(rankOfFloat(a), rankOfFloat(b)))
}

// rankOfFloat rises as floats do: bits rise with the size, so those of what is
// below nought are turned over. The bits of NaN lie above those of infinity.
func rankOfFloat(x float64) uint64 {
	b := ToBits(x)
	if b&signBit != 0 {
		return ^b
	}
	return b | signBit
}

func toNative(a Cx) complex128 {
	return complex(a.Re, a.Im)
}

func fromNative(z complex128) Cx {
	return Cx{Re: real(z), Im: imag(z)}
}

func CxAdd(a Cx, b Cx) Cx {
	return fromNative(toNative(a) + toNative(b))
}

func CxMul(a Cx, b Cx) Cx {
	return fromNative(nativeProduct(toNative(a), toNative(b)))
}

// nativeProduct spells the product out: each conversion keeps a product from
// being joined with the sum behind it, which the language's own product allows.
func nativeProduct(x complex128, y complex128) complex128 {
	re := float64(real(x)*real(y)) - float64(imag(x)*imag(y))
	im := float64(real(x)*imag(y)) + float64(imag(x)*real(y))
	return complex(re, im)
}

func CxTurn(a Cx, k int64) Cx {
	z := toNative(a)
	// The two lowest bits are k modulo 4 below 0 too.
	switch k & 3 {
	case 1:
		z = complex(-imag(z), real(z))
	case 2:
		z = complex(-real(z), -imag(z))
	case 3:
		z = complex(imag(z), -real(z))
	}
	return fromNative(z)
}

// CxSize converts each product for the reason that nativeProduct does.
func CxSize(a Cx) float64 {
	return float64(a.Re*a.Re) + float64(a.Im*a.Im)
}

func CxSum(list []Cx) Cx {
	if len(list) > MaxList {
		return Cx{}
	}
	return fromNative(sumInHalves(list))
}

func sumInHalves(list []Cx) complex128 {
	switch len(list) {
	case 0:
		return 0
	case 1:
		return toNative(list[0])
	}
	half, all := len(list)/2, len(list)
	// No half can reach what lies behind its own length.
	return sumInHalves(list[:half:half]) + sumInHalves(list[half:all:all])
}

func CxSame(a Cx, b Cx) bool {
	x, y := toNative(a), toNative(b)
	if x == x && x != y {
		// Unlike without a NaN in x: no need to look at bits.
		return false
	}
	return bitsOfCx(x) == bitsOfCx(y)
}

func bitsOfCx(z complex128) cxBits {
	return cxBits{re: ToBits(real(z)), im: ToBits(imag(z))}
}
