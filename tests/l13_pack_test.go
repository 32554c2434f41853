package tests

import (
	"slices"
	"testing"

	"loop.example/g00050/impl"
)

// edgesOfBits are the numbers of bits that the document takes, the ones next to them, and ones that a careless shift lets through.
func edgesOfBits() []int64 {
	list := []int64{leastInt, leastInt + 1, leastInt + 8, -1 << 32, -64, -48, -16, -8, -1, 18, 31, 32, 33, 62, 63, 64, 65, 72, 127, 128, 1 << 32, 1<<32 + 8, mostInt - 1, mostInt}
	for bits := int64(0); bits <= 17; bits++ {
		list = append(list, bits)
	}
	return list
}

func TestPackedByHand(t *testing.T) {
	for _, row := range []struct {
		tones []int64
		bits  int64
		want  []byte
	}{
		{[]int64{1, 2, 3}, 2, []byte{57}},
		{[]int64{1}, 1, []byte{1}},
		{[]int64{0}, 1, []byte{0}},
		{[]int64{0, 0, 0, 0, 0, 0, 0, 1}, 1, []byte{128}},
		{[]int64{0, 0, 0, 0, 0, 0, 0, 0, 1}, 1, []byte{0, 1}},
		{[]int64{1, 0, 1, 1}, 1, []byte{13}},
		// 101, 110 and 011, each read from behind: 101 011 11|0 then 0.
		{[]int64{5, 6, 3}, 3, []byte{0xf5, 0}},
		{[]int64{7, 7, 7}, 3, []byte{0xff, 1}},
		{[]int64{1, 0, 4}, 3, []byte{1, 1}},
		{[]int64{31, 0, 21}, 5, []byte{0x1f, 0x54}},
		{[]int64{127, 1}, 7, []byte{0xff, 0}},
		{[]int64{127, 2}, 7, []byte{0x7f, 1}},
		{[]int64{255, 1, 128}, 8, []byte{255, 1, 128}},
		{[]int64{257, 511}, 9, []byte{1, 0xff, 3}},
		{[]int64{0x7ff, 0x400, 1}, 11, []byte{0xff, 7, 0x60, 0, 0}},
		{[]int64{0xabc, 0xdef}, 12, []byte{0xbc, 0xfa, 0xde}},
		{[]int64{32767, 1}, 15, []byte{0xff, 0xff, 0, 0}},
		{[]int64{16384, 16385}, 15, []byte{0, 0xc0, 0, 0x20}},
		{[]int64{1, 256, 65535}, 16, []byte{1, 0, 0, 1, 255, 255}},
		{nil, 1, nil},
		{[]int64{}, 16, nil},
	} {
		wantFile(t, row, impl.PackTones(row.tones, row.bits), row.want)
		wantUnpacked(t, row, row.want, int64(len(row.tones)), row.bits, row.tones, true)
		wantFile(t, "the test's own reckoning", plainPack(row.tones, row.bits), row.want)
	}
}

// Bit number k of tone number i is bit number i * bits + k: one bit at a time.
func TestEachBitHasItsPlace(t *testing.T) {
	for bits := int64(1); bits <= 16; bits++ {
		for i := range int64(9) {
			for k := range bits {
				tones := make([]int64, 9)
				tones[i] = 1 << k
				at := i*bits + k
				want := make([]byte, (9*bits+7)/8)
				want[at/8] = 1 << (at % 8)
				wantFile(t, []int64{bits, i, k}, impl.PackTones(tones, bits), want)
				wantUnpacked(t, []int64{bits, i, k}, want, 9, bits, tones, true)
			}
		}
	}
}

func TestPackedThereAndBack(t *testing.T) {
	m := mixer(220)
	for bits := int64(1); bits <= 16; bits++ {
		for n := range 40 {
			wantPacked(t, bits, m.list(n, 0, 1<<bits-1), bits)
		}
		for _, n := range []int{1, 2, 7, 8, 9, 1000} {
			wantPacked(t, bits, slices.Repeat([]int64{1<<bits - 1}, n), bits)
			wantPacked(t, bits, make([]int64, n), bits)
		}
	}
	for n := range 5 {
		for _, tones := range listsOf(n, 0, 7) {
			wantPacked(t, "small", tones, 3)
		}
	}
}

func TestBitsOfATone(t *testing.T) {
	for _, bits := range edgesOfBits() {
		for _, tone := range []int64{0, 1, 2, 255, 256, 32767, 32768, 65535, 65536, -1, 131071, 1 << 32, 1<<32 + 1, leastInt, mostInt} {
			wantPacked(t, []int64{tone, bits}, []int64{tone}, bits)
			wantPacked(t, []int64{tone, bits}, []int64{0, tone, 1}, bits)
			wantPacked(t, []int64{tone, bits}, []int64{1, 0, tone}, bits)
		}
		wantPacked(t, bits, nil, bits)
	}
	for bits := int64(1); bits <= 16; bits++ {
		for _, at := range []int{0, 1, 4} {
			tones := make([]int64, 5)
			tones[at] = 1<<bits - 1
			wantNumber(t, "just so many bits", int64(len(impl.PackTones(tones, bits))), (5*bits+7)/8)
			tones[at]++
			wantFile(t, "one bit more", impl.PackTones(tones, bits), nil)
			tones[at] = -1
			wantFile(t, "below 0", impl.PackTones(tones, bits), nil)
		}
	}
	for _, tones := range noTones() {
		for _, bits := range []int64{1, 8, 15, 16} {
			wantFile(t, brief(tones), impl.PackTones(tones, bits), nil)
		}
	}
}

func TestPackedAtTheLimits(t *testing.T) {
	m := mixer(221)
	for _, bits := range []int64{1, 3, 8, 13, 16} {
		all := m.list(65537, 0, 1<<bits-1)
		wantPacked(t, bits, all[:65536], bits)
		wantPacked(t, bits, all[:65535], bits)
		wantNumber(t, "65536 tones", int64(len(impl.PackTones(all[:65536], bits))), 8192*bits)
		wantFile(t, "one more", impl.PackTones(all, bits), nil)
		wantFile(t, "one more of 0", impl.PackTones(make([]int64, 65537), bits), nil)
		wantUnpacked(t, "65536 tones", make([]byte, 8192*bits), 65536, bits, make([]int64, 65536), true)
		wantUnpacked(t, "one more", make([]byte, (65537*bits+7)/8), 65537, bits, nil, false)
	}
}

func TestUnpackedCounts(t *testing.T) {
	m := mixer(222)
	for _, bits := range edgesOfBits() {
		for _, count := range []int64{leastInt, leastInt + 1, -1 << 32, -65536, -8, -1, 65537, 65538, 1 << 17, 1 << 32, 1<<32 + 1, 1 << 58, 1 << 60, 1 << 61, 1 << 62, mostInt - 1, mostInt} {
			for _, b := range [][]byte{nil, {}, {0}, {1, 2, 3}, make([]byte, 16)} {
				wantUnpacked(t, "counts", b, count, bits, nil, false)
			}
		}
		if liesFrom(bits, 1, 16) {
			continue
		}
		for n := range int64(20) {
			for length := range 4 {
				wantUnpacked(t, "bits", make([]byte, length), n, bits, nil, false)
			}
		}
	}
	for bits := int64(1); bits <= 16; bits++ {
		wantUnpacked(t, "no tone", nil, 0, bits, nil, true)
		wantUnpacked(t, "no tone", []byte{}, 0, bits, nil, true)
		wantUnpacked(t, "no tone", []byte{0}, 0, bits, nil, false)
		for n := int64(1); n <= 20; n++ {
			tones := m.list(int(n), 0, 1<<bits-1)
			b := plainPack(tones, bits)
			wantUnpacked(t, "as told", b, n, bits, tones, true)
			wantUnpacked(t, "one byte too few", b[:len(b)-1], n, bits, nil, false)
			wantUnpacked(t, "no byte", nil, n, bits, nil, false)
			for _, more := range []byte{0, 1, 128, 255} {
				wantUnpacked(t, "one byte too many", append(slices.Clone(b), more), n, bits, nil, false)
			}
			for over := n * bits; over < 8*int64(len(b)); over++ {
				other := slices.Clone(b)
				other[over/8] |= 1 << (over % 8)
				wantUnpacked(t, "a bit left over", other, n, bits, nil, false)
			}
		}
	}
}

func TestUnpackedPlainly(t *testing.T) {
	m := mixer(223)
	ask := func(b []byte, n, bits int64) {
		t.Helper()
		tones, ok := plainUnpack(b, n, bits)
		wantUnpacked(t, b, b, n, bits, tones, ok)
		if ok {
			wantFile(t, "packed again", impl.PackTones(tones, bits), b)
		}
	}
	for bits := int64(1); bits <= 16; bits++ {
		for n := range int64(10) {
			for part := range 256 {
				ask([]byte{byte(part)}, n, bits)
			}
			for range 40 {
				ask([]byte{byte(m.next()), byte(m.next())}, n, bits)
				ask([]byte{byte(m.next()), byte(m.next()), byte(m.pick(0, 3))}, n, bits)
			}
		}
	}
}
