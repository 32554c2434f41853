package tests

import (
	"bytes"
	"slices"
	"testing"

	"loop.example/g00050/impl"
)

func TestDigestByHand(t *testing.T) {
	for _, row := range []struct {
		b    []byte
		want int64
	}{
		{nil, 0},
		{[]byte{}, 0},
		{[]byte{0}, 258},
		{[]byte{1}, 259},
		{[]byte{255}, 513},
		{[]byte{1, 2}, 132615},
		{[]byte{0, 0}, 132356},    // 2, 515, 132356
		{[]byte("abc"), 57422124}, // 3, 869, 223432, 57422124
	} {
		wantNumber(t, row.b, impl.Digest(row.b), row.want)
		wantNumber(t, "the test's own reckoning", plainDigest(row.b), row.want)
	}
	for part := range 256 {
		wantNumber(t, part, impl.Digest([]byte{byte(part)}), 258+int64(part))
	}
}

func TestDigestOfManyBytes(t *testing.T) {
	m := mixer(228)
	for _, n := range []int{3, 7, 8, 9, 10, 30, 1000, 65535, 65536, 65537} {
		for _, b := range [][]byte{make([]byte, n), bytes.Repeat([]byte{255}, n), m.someBytes(n), m.someBytes(n)} {
			digest := impl.Digest(b)
			wantNumber(t, n, digest, plainDigest(b))
			if !liesFrom(digest, 0, 2305843009213693950) {
				t.Error("out of range", n, digest)
			}
		}
	}
	for range 3000 {
		b := m.someBytes(int(m.pick(0, 40)))
		wantNumber(t, b, impl.Digest(b), plainDigest(b))
	}
}

func (m *mixer) someBytes(n int) []byte {
	out := make([]byte, n)
	for i := range out {
		out[i] = byte(m.next())
	}
	return out
}

// Bytes for digests at both ends of their range: a sum that is the prime itself is told as 0.
func TestDigestAtTheEnds(t *testing.T) {
	met := 0
	for _, digest := range []int64{0, 1, 2, 256, 257, 258, 1 << 32, 1 << 53, 1<<53 - 1, 1 << 60, 2305843009213693949, 2305843009213693950} {
		for count := int64(7); count <= 12; count++ {
			b, ok := bytesOfDigest(digest, count)
			if !ok {
				continue
			}
			met++
			wantNumber(t, b, plainDigest(b), digest)
			wantNumber(t, b, impl.Digest(b), digest)
			for _, more := range []byte{0, 255} {
				longer := append(slices.Clone(b), more)
				wantNumber(t, longer, impl.Digest(longer), plainDigest(longer))
			}
		}
	}
	if met < 12 {
		t.Error("too few lists with these digests", met)
	}
}

func TestDigestTellsNoughts(t *testing.T) {
	m := mixer(229)
	for range 300 {
		b := m.someBytes(int(m.pick(0, 20)))
		seen := map[int64]int{}
		for ahead := range 4 {
			for behind := range 4 {
				seen[impl.Digest(slices.Concat(make([]byte, ahead), b, make([]byte, behind)))]++
			}
		}
		want := 16
		if len(bytes.Trim(b, "\x00")) == 0 {
			want = 7 // from none to six more, wherever they stand
		}
		wantNumber(t, b, int64(len(seen)), int64(want))
	}
}
