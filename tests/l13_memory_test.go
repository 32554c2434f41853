package tests

import (
	"bytes"
	"slices"
	"sync"
	"testing"

	"loop.example/g00050/impl"
)

func TestPackedBytesAreNewMemory(t *testing.T) {
	m := mixer(234)
	for bits := int64(1); bits <= 16; bits++ {
		for _, n := range []int{1, 3, 8, 50} {
			was := m.list(n, 0, 1<<bits-1)
			tones := roomy(was, 77)
			first, second := impl.PackTones(tones, bits), impl.PackTones(tones, bits)
			if !stays(tones, was, 77) {
				t.Error("tones change")
			}
			fillWith(first, 0xee)
			spoil(tones)
			wantFile(t, "shared memory", second, plainPack(was, bits))
			b := roomy(second, 0xdd)
			one, ok := impl.UnpackTones(b, int64(n), bits)
			other, _ := impl.UnpackTones(b, int64(n), bits)
			if !stays(b, second, 0xdd) || !ok {
				t.Error("bytes change")
			}
			fillWith(b, 0xcc)
			wantUnshared(t, bits, [][]int64{one}, [][]int64{other})
		}
	}
	for _, was := range [][]int64{{}, {2}, {-1}, {0, 70000}, make([]int64, 65537)} {
		tones := roomy(was, 77)
		impl.PackTones(tones, 1)
		impl.PackTones(tones, 17)
		if !stays(tones, was, 77) {
			t.Error("tones that are refused change", brief(was))
		}
	}
	for _, was := range [][]byte{{}, {2}, {255, 255}} {
		b := roomy(was, 0xee)
		for n := range int64(20) {
			impl.UnpackTones(b, n, 3)
			impl.UnpackTones(b, n, 0)
		}
		if !stays(b, was, 0xee) {
			t.Error("bytes that are refused change", was)
		}
	}
}

func TestCompressedBytesAreNewMemory(t *testing.T) {
	m := mixer(235)
	for _, was := range append(m.someTones(), []int64{-1}, []int64{5, 65536}, make([]int64, 65537)) {
		tones := roomy(was, 77)
		name, shortest := impl.Shortest(tones)
		_, again := impl.Shortest(tones)
		for _, codec := range append(codecNames(), "none") {
			want, wantOk := plainCompress(codec, was)
			first, ok := impl.Compress(codec, tones)
			second, _ := impl.Compress(codec, tones)
			wantAnswer(t, codec, ok, wantOk)
			fillWith(first, 0xee)
			wantFile(t, "shared memory", second, want)
			if codec == name {
				fillWith(second, 0xdd)
				wantFile(t, "shared with the shortest", shortest, want)
			}
		}
		if !stays(tones, was, 77) {
			t.Error("tones change", brief(was))
		}
		_, want := plainShortest(was)
		fillWith(shortest, 0xee)
		spoil(tones)
		wantFile(t, "shared memory", again, want)
	}
}

func TestExpandedTonesAreNewMemory(t *testing.T) {
	m := mixer(236)
	for _, want := range m.someTones() {
		for _, codec := range codecNames() {
			was, _ := plainCompress(codec, want)
			b := roomy(was, 0xee)
			first, ok := impl.Expand(codec, b)
			second, _ := impl.Expand(codec, b)
			if !stays(b, was, 0xee) || !ok {
				t.Errorf("%s: bytes change: %x", codec, was)
			}
			spoil(first)
			fillWith(b, 0xdd)
			wantLists(t, codec, second, want)
			// Bytes that are refused stay too.
			for _, other := range [][]byte{was[:len(was)-1], append(slices.Clone(was), 0)} {
				b := roomy(other, 0xee)
				impl.Expand(codec, b)
				impl.Expand("none", b)
				if !stays(b, other, 0xee) {
					t.Errorf("%s: refused bytes change: %x", codec, other)
				}
			}
		}
	}
}

func TestDigestLeavesItsBytes(t *testing.T) {
	m := mixer(237)
	for _, n := range []int{0, 1, 5, 300} {
		was := m.someBytes(n)
		b := roomy(was, 0xee)
		wantNumber(t, n, impl.Digest(b), plainDigest(was))
		if !stays(b, was, 0xee) {
			t.Error("bytes change")
		}
	}
}

// What lies behind a list's length is not read.
func TestCodecsBehindTheLength(t *testing.T) {
	tones := []int64{5, 5, 7, 7, -1, 70000}
	for end := range 5 {
		for _, codec := range codecNames() {
			want, _ := plainCompress(codec, slices.Clone(tones[:end]))
			wantCompressed(t, codec, tones[:end], want, true)
			wantExpanded(t, codec, append(want, 5, 5, 5)[:len(want)], tones[:end], true)
		}
		wantPacked(t, end, tones[:end], 3)
		wantShortest(t, tones[:end])
	}
	b := []byte{57, 1, 2, 3}
	wantUnpacked(t, "behind", b[:1], 3, 2, []int64{1, 2, 3}, true)
	wantUnpacked(t, "behind", b[:1], 5, 2, nil, false)
	wantUnpacked(t, "behind", b[:0], 1, 2, nil, false)
	wantExpanded(t, "plain", []byte{1, 5, 0}[:2], nil, false)
	wantExpanded(t, "rice", []byte{1, 0, 1}[:2], nil, false)
	wantExpanded(t, "runs", []byte{1, 1, 5}[:2], nil, false)
	wantExpanded(t, "steps", []byte{1, 5}[:1], nil, false)
	wantNumber(t, "behind", impl.Digest(b[:1]), 315)
}

// Answers hang on nothing but what they are given, whatever else is asked meanwhile.
func TestCodecsAskedAtOnce(t *testing.T) {
	m := mixer(238)
	lists := m.someTones()
	var group sync.WaitGroup
	for range 8 {
		group.Add(1)
		go func() {
			defer group.Done()
			for _, tones := range lists {
				wantThereAndBack(t, tones)
				if !slices.Equal(impl.Codecs(), codecNames()) {
					t.Error("names")
				}
			}
		}()
	}
	group.Wait()
}

func TestCodecsNeverPanic(t *testing.T) {
	m := mixer(239)
	wild := []int64{leastInt, leastInt + 1, -1 << 32, -65536, -1, 0, 1, 2, 7, 8, 15, 16, 17, 63, 64, 127, 128, 255, 256, 16383, 16384, 65535, 65536, 65537, 1 << 31, 1 << 32, 1 << 60, 1 << 61, 1 << 62, mostInt - 1, mostInt}
	pick := func() int64 {
		if m.pick(0, 2) > 0 {
			return m.pick(0, 20)
		}
		return wild[m.pick(0, int64(len(wild)-1))]
	}
	names := append(codecNames(), noCodecs()...)
	for range 20000 {
		var tones []int64
		for range m.pick(0, 5) {
			tones = append(tones, pick())
		}
		b := m.someBytes(int(m.pick(0, 12)))
		for at := range b {
			if m.pick(0, 1) == 0 {
				b[at] = byte(m.pick(0, 3))
			}
		}
		askCodecs(t, names[m.pick(0, int64(len(names)-1))], tones, b, pick(), pick())
		askCodecs(t, codecNames()[m.pick(0, 3)], tones, b, m.pick(0, 20), m.pick(1, 16))
	}
	long := bytes.Repeat([]byte{0xff, 0x80, 0x01, 0x00}, 1<<16)
	for _, name := range names[:5] {
		for _, b := range [][]byte{nil, make([]byte, 1<<18), bytes.Repeat([]byte{0xff}, 1<<18), bytes.Repeat([]byte{0x80}, 1<<18), bytes.Repeat([]byte{1}, 1<<18), long} {
			askCodecs(t, name, make([]int64, 1<<17), b, 65536, 16)
			askCodecs(t, name, nil, append([]byte{0x80, 0x80, 4}, b...), mostInt, mostInt)
		}
	}
}

func askCodecs(t *testing.T, name string, tones []int64, b []byte, n, bits int64) {
	t.Helper()
	defer wantNoPanic(t, []any{name, brief(tones), len(b), n, bits})
	wantPacked(t, brief(tones), tones, bits)
	unpacked, ok := plainUnpack(b, n, bits)
	wantUnpacked(t, len(b), b, n, bits, unpacked, ok)
	want, ok := plainCompress(name, tones)
	wantCompressed(t, name, tones, want, ok)
	wantPlainly(t, name, b)
	wantShortest(t, tones)
	wantNumber(t, len(b), impl.Digest(b), plainDigest(b))
}
