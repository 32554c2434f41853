package tests

import (
	"math"
	"testing"

	"loop.example/g00050/impl"
)

// Promise 1: bits there and back.

func TestToBitsOfKnownFloats(t *testing.T) {
	for _, c := range []struct {
		x    float64
		bits uint64
	}{
		{0, 0}, {minusNought, 1 << 63}, {1, 0x3ff0000000000000}, {-1, 0xbff0000000000000},
		{2, 0x4000000000000000}, {0.1, 0x3fb999999999999a}, {-0.75, 0xbfe8000000000000},
		{1e308, 0x7fe1ccf385ebc8a0}, {5e-324, 1}, {-5e-324, 1<<63 | 1},
		{2.2250738585072009e-308, 0x000fffffffffffff}, {2.2250738585072014e-308, 0x0010000000000000},
		{math.MaxFloat64, 0x7fefffffffffffff}, {-math.MaxFloat64, 0xffefffffffffffff},
		{infinite, 0x7ff0000000000000}, {-infinite, 0xfff0000000000000},
	} {
		if got := impl.ToBits(c.x); got != c.bits {
			t.Errorf("ToBits(%v) is %#x, not %#x", c.x, got, c.bits)
		}
		if got := impl.FromBits(c.bits); !oneValue(got, c.x) {
			t.Errorf("FromBits(%#x) is %v, not %v", c.bits, got, c.x)
		}
	}
}

func TestBitsThereAndBack(t *testing.T) {
	for _, b := range wholeBits() {
		x := math.Float64frombits(b)
		if got := impl.ToBits(x); got != b {
			t.Fatalf("ToBits(%v) is %#x, not %#x", x, got, b)
		}
		if got := impl.FromBits(b); !oneValue(got, x) {
			t.Fatalf("FromBits(%#x) is %v, not %v", b, got, x)
		}
		if !oneValue(impl.FromBits(impl.ToBits(x)), x) || impl.ToBits(impl.FromBits(b)) != b {
			t.Fatalf("%#x does not come back", b)
		}
	}
}

func TestBitsOfNaNs(t *testing.T) {
	for _, b := range wideNaNs() {
		if got := impl.ToBits(math.Float64frombits(b)); got != 0x7ff8000000000001 {
			t.Errorf("ToBits of the NaN %#x is %#x", b, got)
		}
		if got := impl.FromBits(b); !math.IsNaN(got) {
			t.Errorf("FromBits(%#x) is %v", b, got)
		}
		if got := impl.ToBits(impl.FromBits(b)); got != 0x7ff8000000000001 {
			t.Errorf("bits of FromBits(%#x) are %#x", b, got)
		}
	}
}

// Promise 1: numbers of 32 bits.

func TestShortThereAndBack(t *testing.T) {
	for _, b := range shortPatterns() {
		x := impl.FromShort(b)
		if want := float64(math.Float32frombits(b)); !oneValue(x, want) {
			t.Fatalf("FromShort(%#x) is %v, not %v", b, x, want)
		}
		want := b
		if isShortNaN(b) {
			want = 0x7fc00001
		}
		if got := impl.ShortBits(x); got != want {
			t.Fatalf("ShortBits(FromShort(%#x)) is %#x", b, got)
		}
	}
	for _, b := range wideNaNs() {
		if got := impl.ShortBits(math.Float64frombits(b)); got != 0x7fc00001 {
			t.Errorf("ShortBits of the NaN %#x is %#x", b, got)
		}
	}
}

func TestShortBitsOfKnownFloats(t *testing.T) {
	for _, c := range []struct {
		x    float64
		bits uint32
	}{
		{0, 0}, {minusNought, 1 << 31}, {1, 0x3f800000}, {-2, 0xc0000000}, {0.1, 0x3dcccccd},
		{1 + 0x1p-24, 0x3f800000}, {1 + 0x3p-24, 0x3f800002}, {1 + 0x1p-24 + 0x1p-52, 0x3f800001}, {1 + 0x3p-24 - 0x1p-52, 0x3f800001},
		{2 - 0x1p-24, 0x40000000}, {2 - 0x1p-24 - 0x1p-52, 0x3fffffff},
		// Too great, and the greatest that is not.
		{0x1.fffffep127, 0x7f7fffff}, {0x1.fffffefffffffp127, 0x7f7fffff}, {0x1.ffffffp127, 0x7f800000}, {0x1p128, 0x7f800000},
		{-0x1.fffffefffffffp127, 0xff7fffff}, {-0x1.ffffffp127, 0xff800000}, {-1e300, 0xff800000}, {math.MaxFloat64, 0x7f800000},
		{infinite, 0x7f800000}, {-infinite, 0xff800000},
		// Too small, and the least that is not.
		{0x1p-149, 1}, {0x1p-150, 0}, {-0x1p-150, 1 << 31}, {0x1.0000000000001p-150, 1}, {0x1.fffffffffffffp-151, 0}, {0x3p-150, 2}, {0x5p-150, 2},
		{-0x1.0000000000001p-150, 1<<31 | 1}, {0x1p-151, 0}, {0x1p-1000, 0}, {5e-324, 0}, {-5e-324, 1 << 31}, {-0x1p-1022, 1 << 31},
		// On the border of the numbers with no leading one.
		{0x1p-126, 0x00800000}, {0x1p-126 - 0x1p-149, 0x007fffff}, {0x1p-126 - 0x1p-150, 0x00800000}, {0x1p-126 - 0x1p-150 - 0x1p-178, 0x007fffff},
	} {
		if got := impl.ShortBits(c.x); got != c.bits {
			t.Errorf("ShortBits(%x) is %#x, not %#x", c.x, got, c.bits)
		}
	}
}

// What lies halfway between two numbers of 32 bits goes to the even one, what lies next to halfway to the nearer one.
func TestShortBitsAroundHalfway(t *testing.T) {
	for _, low := range shortPatterns() {
		high := low + 1
		if isShortNaN(low) || isShortNaN(high) || low&0x7fffffff == 0x7f800000 || high&0x7fffffff == 0x7f800000 {
			continue
		}
		even := low
		if low&1 == 1 {
			even = high
		}
		half := (float64(math.Float32frombits(low)) + float64(math.Float32frombits(high))) / 2
		b := math.Float64bits(half)
		for _, c := range []struct {
			x    float64
			bits uint32
		}{{half, even}, {math.Float64frombits(b - 1), low}, {math.Float64frombits(b + 1), high}} {
			if got := impl.ShortBits(c.x); got != c.bits {
				t.Fatalf("ShortBits(%x) is %#x, not %#x", c.x, got, c.bits)
			}
		}
	}
}

func TestShortBitsOfAllFloats(t *testing.T) {
	for _, b := range wholeBits() {
		x := math.Float64frombits(b)
		if got, want := impl.ShortBits(x), math.Float32bits(float32(x)); got != want {
			t.Fatalf("ShortBits(%x) is %#x, not %#x", x, got, want)
		}
	}
}

// Promise 1: the order of all floats.

// rising are floats as the document orders them, one behind the other, none twice.
func rising() []float64 {
	up := []float64{0, 5e-324, 1e-323, 2.2250738585072009e-308, 2.2250738585072014e-308, 0x1p-1021, 1e-300, 0x1p-150, 0.5, 1 - 0x1p-53, 1, 1 + 0x1p-52, 1.5, 2, 3, 1e16, 1e300, 0x1.ffffffffffffep1023, math.MaxFloat64, infinite}
	var list []float64
	for i := range up {
		list = append(list, -up[len(up)-1-i])
	}
	list = append(list, up...)
	list[len(up)-1] = minusNought
	return append(list, someNaN)
}

func TestOrderFloatsOfKnownFloats(t *testing.T) {
	list := rising()
	for i, a := range list {
		for j, b := range list {
			want := int64(0)
			if i < j {
				want = -1
			} else if i > j {
				want = 1
			}
			if got := impl.OrderFloats(a, b); got != want {
				t.Errorf("OrderFloats(%v, %v) is %d, not %d", a, b, got, want)
			}
		}
	}
}

func TestOrderFloatsOfNaNs(t *testing.T) {
	for _, b := range wideNaNs() {
		nan := math.Float64frombits(b)
		for _, x := range rising() {
			want := int64(1)
			if math.IsNaN(x) {
				want = 0
			}
			if impl.OrderFloats(nan, x) != want || impl.OrderFloats(x, nan) != -want {
				t.Errorf("the NaN %#x and %v are out of order", b, x)
			}
		}
	}
}

func TestOrderFloatsIsAnOrder(t *testing.T) {
	list := rising()
	m := mixer(3)
	for range 60 {
		list = append(list, math.Float64frombits(m.next()), m.small())
	}
	list = append(list, list[len(list)-1], math.Float64frombits(0xfff0000000000001))
	for _, a := range list {
		for _, b := range list {
			ab := impl.OrderFloats(a, b)
			if ab < -1 || ab > 1 || impl.OrderFloats(b, a) != -ab {
				t.Fatalf("%v and %v: %d and %d", a, b, ab, impl.OrderFloats(b, a))
			}
			if (ab == 0) != oneValue(a, b) {
				t.Fatalf("%v and %v: %d", a, b, ab)
			}
			if a < b && ab != -1 || a > b && ab != 1 {
				t.Fatalf("%v and %v: %d", a, b, ab)
			}
			for _, c := range list {
				if ab <= 0 && impl.OrderFloats(b, c) <= 0 && impl.OrderFloats(a, c) > min(ab, impl.OrderFloats(b, c)) {
					t.Fatalf("%v, %v, %v: not handed on", a, b, c)
				}
			}
		}
	}
}

// Bits that follow one another are floats that do.
func TestOrderFloatsOfNeighbours(t *testing.T) {
	for _, b := range finiteBits() {
		a, next := math.Float64frombits(b), math.Float64frombits(b+1)
		want := int64(-1)
		if b>>63 == 1 {
			want = 1
		}
		if impl.OrderFloats(a, next) != want || impl.OrderFloats(next, a) != -want {
			t.Fatalf("%v and %v are out of order", a, next)
		}
	}
}
