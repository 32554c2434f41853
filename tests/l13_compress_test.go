package tests

import (
	"slices"
	"testing"

	"loop.example/g00050/impl"
)

func TestCodecNames(t *testing.T) {
	names := impl.Codecs()
	if !slices.Equal(names, []string{"plain", "rice", "runs", "steps"}) || !slices.IsSorted(names) {
		t.Error(names)
	}
	fillWith(names, "spoilt")
	if again := impl.Codecs(); !slices.Equal(again, codecNames()) {
		t.Error("one answer is the memory of another", again)
	}
	for _, name := range impl.Codecs() {
		if b, ok := impl.Compress(name, nil); !ok || len(b) == 0 {
			t.Error("a name that is no codec's", name)
		}
	}
}

func TestCompressedByHand(t *testing.T) {
	for _, row := range []struct {
		tones                    []int64
		plain, rice, runs, steps string
	}{
		{nil, "\x00", "\x00\x00", "\x00", "\x00"},
		{[]int64{0}, "\x01\x00\x00", "\x01\x00\x00", "\x01\x01\x00", "\x01\x00"},
		{[]int64{1}, "\x01\x01\x00", "\x01\x00\x01", "\x01\x01\x01", "\x01\x02"},
		{[]int64{5, 5, 7}, "\x03\x05\x00\x05\x00\x07\x00", "\x03\x02\x55\x0d", "\x03\x02\x05\x01\x07", "\x03\x0a\x00\x04"},
		// Rice of 3 has one low bit: 1, 0, 1. With two it would have as many: 0, 1, 1.
		{[]int64{3}, "\x01\x03\x00", "\x01\x01\x05", "\x01\x01\x03", "\x01\x06"},
		{[]int64{127}, "\x01\x7f\x00", "\x01\x06\xfd", "\x01\x01\x7f", "\x01\xfe\x01"},
		{[]int64{128}, "\x01\x80\x00", "\x01\x06\x03\x00", "\x01\x01\x80\x01", "\x01\x80\x02"},
		{[]int64{16383}, "\x01\xff\x3f", "\x01\x0d\xfd\x7f", "\x01\x01\xff\x7f", "\x01\xfe\xff\x01"},
		{[]int64{16384}, "\x01\x00\x40", "\x01\x0d\x03\x00", "\x01\x01\x80\x80\x01", "\x01\x80\x80\x02"},
		{[]int64{65535}, "\x01\xff\xff", "\x01\x0f\xfd\xff\x01", "\x01\x01\xff\xff\x03", "\x01\xfe\xff\x07"},
		{[]int64{0, 65535, 0}, "\x03\x00\x00\xff\xff\x00\x00", "\x03\x0e\x00\x80\xfb\xff\x01\x00", "\x03\x01\x00\x01\xff\xff\x03\x01\x00", "\x03\x00\xfe\xff\x07\xfd\xff\x07"},
		{[]int64{2, 1, 1, 0}, "\x04\x02\x00\x01\x00\x01\x00\x00\x00", "\x04\x00\x2b", "\x04\x01\x02\x02\x01\x01\x00", "\x04\x04\x01\x00\x01"},
		// With four low bits 70 is 11110 and 0110; with five there would be as many bits in all.
		{[]int64{70, 6}, "\x02\x46\x00\x06\x00", "\x02\x04\xcf\x18", "\x02\x01\x46\x01\x06", "\x02\x8c\x01\x7f"},
		{[]int64{70, 5}, "\x02\x46\x00\x05\x00", "\x02\x04\xcf\x14", "\x02\x01\x46\x01\x05", "\x02\x8c\x01\x81\x01"},
		{[]int64{0, 0, 0, 0, 0, 0, 0, 0}, "\x08\x00\x00\x00\x00\x00\x00\x00\x00\x00\x00\x00\x00\x00\x00\x00\x00", "\x08\x00\x00", "\x08\x08\x00", "\x08\x00\x00\x00\x00\x00\x00\x00\x00"},
		{[]int64{0, 0, 0, 0, 0, 0, 0, 1}, "\x08\x00\x00\x00\x00\x00\x00\x00\x00\x00\x00\x00\x00\x00\x00\x01\x00", "\x08\x00\x80\x00", "\x08\x07\x00\x01\x01", "\x08\x00\x00\x00\x00\x00\x00\x00\x02"},
	} {
		for at, want := range []string{row.plain, row.rice, row.runs, row.steps} {
			name := codecNames()[at]
			wantCompressed(t, name, row.tones, []byte(want), true)
			wantExpanded(t, name, []byte(want), row.tones, true)
			if b, ok := plainCompress(name, row.tones); !ok || string(b) != want {
				t.Errorf("the test's own reckoning: %q of %v: %x", name, row.tones, b)
			}
			wantPlainly(t, name, []byte(want))
		}
	}
}

func TestAllShortListsThereAndBack(t *testing.T) {
	for n := range 6 {
		for _, tones := range listsOf(n, 0, 4) {
			wantThereAndBack(t, tones)
		}
	}
	for tone := range int64(65536) {
		if tone < 1000 || tone > 65000 || tone%97 == 0 {
			wantThereAndBack(t, []int64{tone})
		}
	}
}

func TestManyListsThereAndBack(t *testing.T) {
	m := mixer(224)
	for _, tones := range m.someTones() {
		wantThereAndBack(t, tones)
	}
	for _, n := range []int{20, 127, 128, 129, 500, 16383, 16384} {
		for _, most := range []int64{0, 1, 3, 40, 1000, 65535} {
			tones := m.list(n, 0, most)
			wantThereAndBack(t, tones)
			slices.Sort(tones)
			wantThereAndBack(t, tones)
			slices.Reverse(tones)
			wantThereAndBack(t, tones)
		}
	}
}

func TestEdgeTonesInPairs(t *testing.T) {
	edges := []int64{0, 1, 63, 64, 65, 127, 128, 255, 256, 8191, 8192, 8193, 16383, 16384, 32767, 32768, 65534, 65535}
	for _, a := range edges {
		for _, b := range edges {
			wantThereAndBack(t, []int64{a, b})
			wantThereAndBack(t, []int64{a, b, a})
			wantThereAndBack(t, []int64{a, a, b, b, b})
		}
	}
}

func TestCompressedAtTheLimits(t *testing.T) {
	m := mixer(225)
	comb := make([]int64, 65536)
	for at := 1; at < len(comb); at += 2 {
		comb[at] = 65535
	}
	one := make([]int64, 65536)
	one[40000] = 65535
	for _, tones := range [][]int64{make([]int64, 65536), slices.Repeat([]int64{65535}, 65536), slices.Repeat([]int64{1}, 65535), comb, one, m.list(65536, 0, 65535), m.list(65536, 0, 3)} {
		wantThereAndBack(t, tones)
	}
	for _, name := range codecNames() {
		for _, tones := range noTones() {
			wantCompressed(t, name, tones, nil, false)
		}
	}
	wantCompressed(t, "runs", make([]int64, 65536), []byte("\x80\x80\x04\x80\x80\x04\x00"), true)
	wantCompressed(t, "runs", slices.Repeat([]int64{65535}, 65536), []byte("\x80\x80\x04\x80\x80\x04\xff\xff\x03"), true)
}

func TestRunsOfTonesByHand(t *testing.T) {
	for _, row := range []struct {
		length int
		count  string
	}{{1, "\x01"}, {2, "\x02"}, {127, "\x7f"}, {128, "\x80\x01"}, {129, "\x81\x01"}, {16383, "\xff\x7f"}, {16384, "\x80\x80\x01"}, {65535, "\xff\xff\x03"}, {65536, "\x80\x80\x04"}} {
		for _, tone := range []int64{0, 9, 127} {
			tones := slices.Repeat([]int64{tone}, row.length)
			wantCompressed(t, "runs", tones, []byte(row.count+row.count+string([]byte{byte(tone)})), true)
			wantThereAndBack(t, tones)
		}
	}
	// A tone may come again behind another one.
	wantCompressed(t, "runs", []int64{4, 4, 3, 4, 4, 4}, []byte{6, 2, 4, 1, 3, 3, 4}, true)
	both := slices.Concat(slices.Repeat([]int64{300}, 127), slices.Repeat([]int64{299}, 128), []int64{300})
	wantCompressed(t, "runs", both, []byte{0x80, 2, 127, 0xac, 2, 0x80, 1, 0xab, 2, 1, 0xac, 2}, true)
	wantThereAndBack(t, both)
}

func TestStepsByHand(t *testing.T) {
	for _, row := range []struct {
		tones []int64
		want  string
	}{
		{[]int64{7, 7, 7}, "\x03\x0e\x00\x00"},
		{[]int64{7, 8, 9}, "\x03\x0e\x02\x02"},
		{[]int64{7, 6, 5}, "\x03\x0e\x01\x01"},
		{[]int64{64, 0, 64}, "\x03\x80\x01\x7f\x80\x01"},
		{[]int64{65, 0, 63}, "\x03\x82\x01\x81\x01\x7e"},
		{[]int64{0, 65535, 0, 65535}, "\x04\x00\xfe\xff\x07\xfd\xff\x07\xfe\xff\x07"},
		{[]int64{65535, 65535, 0, 0}, "\x04\xfe\xff\x07\x00\xfd\xff\x07\x00"},
		{[]int64{65535, 65534, 65535, 0}, "\x04\xfe\xff\x07\x01\x02\xfd\xff\x07"},
		{[]int64{8192, 0}, "\x02\x80\x80\x01\xff\x7f"},
	} {
		wantCompressed(t, "steps", row.tones, []byte(row.want), true)
		wantThereAndBack(t, row.tones)
	}
}

func TestEachNumberOfLowBits(t *testing.T) {
	for k := range 15 {
		// A tone of 3 * 2 to the power k less 1 has as many bits with k as with k + 1; a nought beside it takes one more of these.
		tone := int64(3)<<k - 1
		wantBest(t, []int64{tone}, k, true)
		wantBest(t, []int64{tone, 0}, k, false)
	}
	for _, tones := range [][]int64{{65535}, {65535, 65535}, {49152, 65535, 40000}} {
		wantBest(t, tones, 15, false)
	}
}

// wantBest asks for the number of low bits with which tones are told, and of the test itself whether the next greater one has as few.
func wantBest(t *testing.T, tones []int64, best int, equal bool) {
	t.Helper()
	if plainBest(tones) != best || best < 15 && equal != (riceLength(tones, best) == riceLength(tones, best+1)) {
		t.Fatal("the wrong tones for this", tones, best)
	}
	b, ok := impl.Compress("rice", tones)
	if !ok || len(b) < 2 || int(b[1]) != best {
		t.Errorf("%v: %x, want %d low bits", tones, b, best)
	}
	wantThereAndBack(t, tones)
	wantLowBits(t, tones, best)
}

// wantLowBits asks that no other number of low bits is taken.
func wantLowBits(t *testing.T, tones []int64, best int) {
	t.Helper()
	for k := range 16 {
		b := append(plainSmall(int64(len(tones))), riceBody(tones, k)...)
		if k == best {
			wantExpanded(t, "rice", b, tones, true)
		} else {
			wantExpanded(t, "rice", b, nil, false)
		}
	}
}

func TestLeastOfEqualLowBits(t *testing.T) {
	for _, row := range []struct {
		tones []int64
		best  int
		equal []int
	}{
		{nil, 0, []int{0, 1, 2, 3, 4, 5, 6, 7, 8, 9, 10, 11, 12, 13, 14, 15}},
		{[]int64{0}, 0, []int{0}},
		{[]int64{1}, 0, []int{0, 1}},
		{[]int64{2}, 0, []int{0, 1, 2}},
		{[]int64{3}, 1, []int{1, 2}},
		{[]int64{4}, 1, []int{1, 2, 3}},
		{[]int64{1, 1}, 0, []int{0, 1}},
		{[]int64{2, 2, 2}, 0, []int{0, 1, 2}},
		{[]int64{5, 0}, 1, []int{1}},
		{[]int64{6, 0}, 1, []int{1, 2}},
		{[]int64{64, 64, 64}, 5, []int{5, 6, 7}},
		{[]int64{32768}, 14, []int{14, 15}},
	} {
		least := riceLength(row.tones, row.best)
		for k := range 16 {
			length := riceLength(row.tones, k)
			if length < least || (length == least) != slices.Contains(row.equal, k) {
				t.Error("the table is wrong", row.tones, k, length, least)
			}
		}
		wantBest(t, row.tones, row.best, len(row.equal) > 1)
	}
}

// Of all lengths modulo 8 some list leaves bits over, and these are 0.
func TestRiceBitsLeftOver(t *testing.T) {
	left := map[int64]int{}
	for n := range 12 {
		tones := slices.Repeat([]int64{1, 2, 0}, n)
		over := -riceLength(tones, 0) & 7
		left[over]++
		wantThereAndBack(t, tones)
		b, _ := impl.Compress("rice", tones)
		for k := range over {
			other := slices.Clone(b)
			other[len(b)-1] |= 128 >> k
			wantExpanded(t, "rice", other, nil, false)
		}
	}
	for n := range 9 {
		tones := make([]int64, n)
		over := -int64(n) & 7
		left[over]++
		wantCompressed(t, "rice", tones, append([]byte{byte(n), 0}, make([]byte, (n+7)/8)...), true)
	}
	if len(left) != 8 {
		t.Error("not each number of bits is left over", left)
	}
}

func TestNamesThatAreNoCodecs(t *testing.T) {
	m := mixer(226)
	lists := append(m.someTones(), nil, make([]int64, 65536), []int64{-1}, make([]int64, 65537))
	for _, name := range noCodecs() {
		for _, tones := range lists {
			wantCompressed(t, name, tones, nil, false)
		}
		for _, b := range []string{"", "\x00", "\x00\x00", "\x01\x00", "\x01\x00\x00", "\x01\x01\x00", "\x03\x02\x55\x0d"} {
			wantExpanded(t, name, []byte(b), nil, false)
		}
	}
	for n := range 3 {
		for _, letters := range listsOf(n, 'a', 'z') {
			name := ""
			for _, letter := range letters {
				name += string(rune(letter))
			}
			wantCompressed(t, name, []int64{1}, nil, false)
		}
	}
}
