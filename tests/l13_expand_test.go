package tests

import (
	"bytes"
	"slices"
	"testing"

	"loop.example/g00050/impl"
)

func wantNoTonesIn(t *testing.T, name string, texts ...string) {
	t.Helper()
	for _, text := range texts {
		wantExpanded(t, name, []byte(text), nil, false)
		if _, ok := plainExpand(name, []byte(text)); ok {
			t.Errorf("the test's own reckoning takes %q for %s", text, name)
		}
	}
}

// All bytes that there are, up to two, and all of a few more.
func TestExpandedPlainly(t *testing.T) {
	taken := map[string]int{}
	ask := func(b []byte) {
		for _, name := range codecNames() {
			if wantPlainly(t, name, b) {
				taken[name]++
			}
		}
	}
	ask(nil)
	ask([]byte{})
	for first := range 256 {
		ask([]byte{byte(first)})
		for second := range 256 {
			ask([]byte{byte(first), byte(second)})
		}
	}
	few := []byte{0, 1, 2, 3, 5, 127, 128, 129, 255}
	for n := 3; n <= 5; n++ {
		for _, places := range listsOf(n, 0, int64(len(few)-1)) {
			b := make([]byte, n)
			for at, place := range places {
				b[at] = few[place]
			}
			ask(b)
		}
	}
	for _, name := range codecNames() {
		if taken[name] < 30 {
			t.Error("too few were taken", taken)
		}
	}
}

// Cut short, with more behind, with one byte turned: taken just where they are what Compress makes of some tones.
func TestExpandedWithAFault(t *testing.T) {
	m := mixer(230)
	taken, refused := 0, 0
	ask := func(name string, b []byte) {
		t.Helper()
		if wantPlainly(t, name, b) {
			taken++
		} else {
			refused++
		}
	}
	for _, tones := range m.someTones() {
		for _, name := range codecNames() {
			b, _ := impl.Compress(name, tones)
			for end := range b {
				ask(name, b[:end])
			}
			for more := range 256 {
				ask(name, append(slices.Clone(b), byte(more)))
				ask(name, append([]byte{byte(more)}, b...))
			}
			for at := range b {
				other := slices.Clone(b)
				for turn := range 255 {
					other[at] = b[at] + byte(turn+1)
					ask(name, other)
				}
			}
		}
	}
	if taken < 1000 || refused < 1000 {
		t.Error("one-sided", taken, refused)
	}
}

func TestLongBytesWithAFault(t *testing.T) {
	m := mixer(231)
	for _, tones := range [][]int64{m.list(300, 0, 9), m.list(1000, 0, 65535), slices.Repeat([]int64{7, 7, 8}, 200), make([]int64, 65536)} {
		for _, name := range codecNames() {
			b, _ := impl.Compress(name, tones)
			wantExpanded(t, name, b, tones, true)
			for range 60 {
				at := int(m.pick(0, int64(len(b)-1)))
				wantExpanded(t, name, b[:at], nil, false)
				other := slices.Clone(b)
				other[at] ^= byte(m.pick(1, 255))
				wantPlainly(t, name, other)
			}
			wantExpanded(t, name, append(slices.Clone(b), 0), nil, false)
			wantExpanded(t, name, append(slices.Clone(b), b...), nil, false)
			wantExpanded(t, name, append([]byte{0}, b...), nil, false)
		}
	}
}

func TestNoBytesAtAll(t *testing.T) {
	for _, name := range codecNames() {
		wantNoTonesIn(t, name, "", "\x80", "\xff", "\x80\x00")
		wantExpanded(t, name, nil, nil, false)
	}
	for _, name := range []string{"plain", "runs", "steps"} {
		wantExpanded(t, name, []byte{0}, nil, true)
		wantNoTonesIn(t, name, "\x00\x00", "\x00\x01", "\x01")
	}
	wantExpanded(t, "rice", []byte{0, 0}, nil, true)
	wantNoTonesIn(t, "rice", "\x00", "\x00\x01", "\x00\x0f", "\x00\x00\x00", "\x01", "\x01\x00")
}

func TestSmallNumbersThatAreNone(t *testing.T) {
	// Ones that end in 0, that never end, that pass 21, 63, 64 or more bits.
	wrong := []string{"\x80\x00", "\x81\x00", "\xff\x00", "\x80\x80\x00", "\x83\x80\x00", "\x83\x80\x80\x00", "\x83\x80\x80\x80\x80\x80\x80\x80\x80\x00",
		"\x80", "\x80\x80", "\xff\xff\xff\xff", "\x80\x80\x80\x01", "\x83\x80\x80\x01", "\x83\x80\x80\x80\x10",
		"\x83\x80\x80\x80\x80\x80\x80\x80\x80\x01", "\x83\x80\x80\x80\x80\x80\x80\x80\x80\x02", "\x83\x80\x80\x80\x80\x80\x80\x80\x80\x80\x01", "\xff\xff\xff\xff\xff\xff\xff\xff\xff\x01", "\xff\xff\xff\xff\xff\xff\xff\xff\x7f",
		string(bytes.Repeat([]byte{0x80}, 300)), string(bytes.Repeat([]byte{0xff}, 70000)), string(bytes.Repeat([]byte{0x80}, 300)) + "\x01"}
	for _, number := range wrong {
		for _, behind := range []string{"", "\x00", "\x00\x00", "\x05\x00\x05\x00\x07\x00", "\x02\x55\x0d", "\x02\x05\x01\x07", "\x0a\x00\x04", "\x03\x05", "\x01\x05"} {
			for _, name := range codecNames() {
				wantNoTonesIn(t, name, number+behind)
			}
		}
		for _, text := range []string{"\x01" + number + "\x05", "\x01\x01" + number, "\x03" + number + "\x05", "\x03\x02\x05" + number + "\x07", "\x03\x02\x05\x01" + number} {
			wantNoTonesIn(t, "runs", text)
		}
		for _, text := range []string{"\x01" + number, "\x02\x00" + number, "\x02" + number + "\x00", "\x03\x0a" + number + "\x04"} {
			wantNoTonesIn(t, "steps", text)
		}
	}
}

func TestCountsThatAreWrong(t *testing.T) {
	tones := []int64{5, 5, 7}
	for _, name := range codecNames() {
		right, _ := plainCompress(name, tones)
		body := right[1:]
		for _, count := range []int64{0, 1, 2, 4, 5, 127, 128, 65535, 65536, 65537, 131072, 2097151, 2097152, 1 << 32, 1<<32 + 3, 1 << 61, mostInt} {
			b := append(plainSmall(count), body...)
			wantNoTonesIn(t, name, string(b))
		}
		wantExpanded(t, name, append(plainSmall(3), body...), tones, true)
		// As many tones as there may be, and one more.
		for _, tone := range []int64{0, 3} {
			all := slices.Repeat([]int64{tone}, 65536)
			b, _ := plainCompress(name, all)
			wantExpanded(t, name, b, all, true)
			if !bytes.Equal(b[:3], []byte{0x80, 0x80, 4}) {
				t.Fatal("count", b[:3])
			}
			for _, count := range []string{"\x81\x80\x04", "\x80\x80\x05", "\x00", "\xff\xff\x7f"} {
				wantExpanded(t, name, append([]byte(count), b[3:]...), nil, false)
			}
			// One fewer is told by as many bytes of rice, where a tone has one bit.
			wantPlainly(t, name, append([]byte("\xff\xff\x03"), b[3:]...))
		}
	}
	// What Compress would make of one tone more, if there might be so many.
	more := slices.Repeat([]int64{2}, 65537)
	count := plainSmall(65537)
	wantExpanded(t, "plain", append(slices.Clone(count), bytes.Repeat([]byte{2, 0}, 65537)...), nil, false)
	wantExpanded(t, "rice", append(slices.Clone(count), riceBody(more, 0)...), nil, false)
	wantExpanded(t, "runs", append(slices.Clone(count), runsBody(more)...), nil, false)
	wantExpanded(t, "steps", append(slices.Clone(count), stepsBody(more)...), nil, false)
}

func TestRunsThatAreNone(t *testing.T) {
	wantExpanded(t, "runs", []byte{3, 2, 5, 1, 7}, []int64{5, 5, 7}, true)
	wantNoTonesIn(t, "runs",
		"\x03\x00\x05\x02\x05\x01\x07", "\x03\x02\x05\x00\x06\x01\x07", "\x03\x02\x05\x01\x07\x00\x07", "\x03\x02\x05\x01\x07\x00\x08", "\x00\x00\x05", "\x01\x00\x05\x01\x05", // a length of 0
		"\x02\x01\x05\x01\x05", "\x03\x01\x05\x01\x05\x01\x07", "\x03\x02\x05\x01\x05", "\x03\x01\x05\x02\x05", "\x04\x02\x00\x02\x00", // two runs of like tones
		"\x03\x04\x05", "\x03\x02\x05\x02\x07", "\x03\x03\x05\x01\x07", "\x03\xff\xff\x7f\x05", "\x03\x02\x05\xff\xff\x7f\x07", "\x03\x80\x80\x04\x05", "\x00\x01\x05", // lengths that pass the count
		"\x03\x02\x05", "\x03\x02\x05\x01", "\x03\x02", "\x03\x01\x05\x01\x07", "\x04\x02\x05\x01\x07", // too few
		"\x03\x02\x05\x01\x07\x01\x08", "\x03\x02\x05\x01\x07\x00", "\x03\x02\x05\x01\x07\x01", // too many
		"\x03\x02\x05\x01\x80\x80\x04", "\x03\x02\x80\x80\x04\x01\x07", "\x01\x01\x81\x80\x04", "\x01\x01\xff\xff\x7f", // a tone of 65536 and more
		"\x03\x02\x85\x00\x01\x07", "\x03\x82\x00\x05\x01\x07")
	wantExpanded(t, "runs", []byte("\x01\x01\xff\xff\x03"), []int64{65535}, true)
	wantExpanded(t, "runs", []byte("\x03\x02\xff\xff\x03\x01\x00"), []int64{65535, 65535, 0}, true)
}

func TestStepsThatAreNone(t *testing.T) {
	wantExpanded(t, "steps", []byte("\x01\xfe\xff\x07"), []int64{65535}, true)
	wantExpanded(t, "steps", []byte("\x02\xfe\xff\x07\xfd\xff\x07"), []int64{65535, 0}, true)
	wantNoTonesIn(t, "steps",
		"\x01\x01", "\x01\x03", "\x02\x02\x03", "\x02\x00\x01", "\x01\xfd\xff\x07", "\x02\x0a\x0b", "\x02\xfe\xff\x07\xff\xff\x07", // a tone below 0
		"\x02\x01\x02", "\x03\x01\x01\x08", "\x03\x00\x01\x02", // back again too
		"\x01\x80\x80\x08", "\x02\xfe\xff\x07\x02", "\x02\x02\xfe\xff\x07", "\x01\xff\xff\x7f", "\x01\xfe\xff\x7f", // a tone above 65535
		"\x03\xfe\xff\x07\x02\x01",
		"\x01\x8a\x00", "\x02\x0a\x80\x00", "\x01", "\x02\x0a", "\x01\x0a\x00", "\x01\x0a\x0a")
}

func TestRiceThatIsNone(t *testing.T) {
	wantExpanded(t, "rice", []byte{3, 2, 0x55, 0x0d}, []int64{5, 5, 7}, true)
	wantNoTonesIn(t, "rice",
		"\x03\x03\x55\x0d", "\x03\x01\x55\x0d", "\x03\x00\x55\x0d", "\x03\x10\x55\x0d", "\x03\x12\x55\x0d", "\x03\x82\x55\x0d", "\x03\xff\x55\x0d", "\x03\x42\x55\x0d", // another k
		"\x01\x10\x00\x00\x00", "\x01\x10\x01\x00\x00", "\x01\x10\xfe\xff\x01", "\x01\x20\x00\x00\x00\x00\x00", "\x01\xff", "\x01\x40", "\x00\x10", "\x00\xff",
		"\x03\x02\x55\x1d", "\x03\x02\x55\x2d", "\x03\x02\x55\x8d", "\x03\x02\x55\xfd", "\x01\x00\x02", "\x01\x00\x80", // bits left over
		"\x03\x02\x55\x0d\x00", "\x03\x02\x55", "\x03\x02", "\x03",
		"\x01\x00\xff", "\x01\x00\xff\xff\xff", "\x01\x0f\xff", "\x01\x0f\xff\xff\xff\xff", "\x02\x00\xff\xff", // ones without an end
		"\x01\x0f\x03\x00\x00", "\x01\x0f\xff\xff\x01", // a tone of 65536 and more
	)
	endless := append([]byte{1, 0}, bytes.Repeat([]byte{0xff}, 1<<17)...)
	wantExpanded(t, "rice", endless, nil, false)
	wantExpanded(t, "rice", append(endless, 0), nil, false)
	// 65535 ones ahead of a nought are a tone, though no short way to tell it.
	long := append(append([]byte{1, 0}, bytes.Repeat([]byte{0xff}, 8191)...), 0x7f)
	wantExpanded(t, "rice", long, nil, false)
	// With enough noughts beside it they are.
	tones := make([]int64, 65536)
	tones[0] = 65535
	all := append(append([]byte{0x80, 0x80, 4, 0}, long[2:]...), make([]byte, 8192)...)
	wantCompressed(t, "rice", tones, all, true)
	wantExpanded(t, "rice", all, tones, true)
	wantExpanded(t, "rice", all[:len(all)-1], nil, false)
	wantExpanded(t, "rice", append(all, 0), nil, false)
	// One more one is a tone that is none.
	b := append([]byte{0x80, 0x80, 4, 0}, bytes.Repeat([]byte{0xff}, 8192)...)
	wantExpanded(t, "rice", append(b, make([]byte, 8192)...), nil, false)
}

func TestEveryNumberOfLowBitsButTheBest(t *testing.T) {
	m := mixer(232)
	for _, tones := range m.someTones() {
		wantLowBits(t, tones, plainBest(tones))
	}
}

// Bytes of one codec are another one's only where both would make them.
func TestBytesOfAnotherCodec(t *testing.T) {
	m := mixer(233)
	for _, tones := range m.someTones() {
		for _, name := range codecNames() {
			b, _ := impl.Compress(name, tones)
			for _, other := range codecNames() {
				wantPlainly(t, other, b)
			}
		}
	}
}
