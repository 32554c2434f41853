package tests

import (
	"slices"
	"strings"
	"testing"

	"loop.example/g00050/impl"
)

func wantSigns(t *testing.T, name string, want ...int64) {
	t.Helper()
	if got := impl.Signs(name); !slices.Equal(got, want) {
		t.Errorf("%.40q: %s, want %s", name, brief(got), brief(want))
	}
	if own := plainSigns(name); !slices.Equal(own, want) {
		t.Errorf("%.40q: the test's own reckoning tells %s", name, brief(own))
	}
}

func TestSignsOfSets(t *testing.T) {
	wantSigns(t, "")
	wantSigns(t, "ab", 97, 98)
	wantSigns(t, "a\x80\xffb", 97, 65533, 65533, 98)
	wantSigns(t, "\xc3\xa9", 65533, 65533)
	wantSigns(t, "\x1b1\xc3\xa9", 195, 169)
	wantSigns(t, "\x1b2\xc3\xa9", 233)
	wantSigns(t, "\x1b0\xc3\xa9", 65533, 65533)
	wantSigns(t, "\xe9\x1b1\xe9\x1b0\xe9\x1b2\xe9\x1b1\xe9", 65533, 233, 65533, 65533, 233)
	wantSigns(t, "a\x1b1b\x1b2c\x1b0d", 97, 98, 99, 100)
	// The digits that switch are signs elsewhere.
	wantSigns(t, "0\x1b010\x1b121\x1b202", 48, 49, 48, 50, 49, 48, 50)
	// To the set that holds already.
	wantSigns(t, "\x1b0a\x1b0\x80", 97, 65533)
	wantSigns(t, "\x1b1\x1b1\x80\x1b1\x80", 128, 128)
	wantSigns(t, "\x1b2\x1b2\xc2\x80\x1b2\xc2\x80", 128, 128)
	for part := range 256 {
		sign, name := int64(part), string([]byte{byte(part)})
		low := sign
		if part > 127 {
			low = 65533
		}
		if part == 27 {
			sign, low = 65533, 65533
		}
		wantSigns(t, name, low)
		wantSigns(t, "\x1b1"+name, sign)
		wantSigns(t, "\x1b2"+name, low)
		wantSigns(t, "\x1b1"+name+name+"\x1b0"+name, sign, sign, low)
	}
}

func TestEscapesThatSwitchNothing(t *testing.T) {
	for set, ahead := range []string{"", "\x1b1", "\x1b2"} {
		wantSigns(t, ahead+"\x1b", 65533)
		wantSigns(t, ahead+"a\x1b", 97, 65533)
		wantSigns(t, ahead+"\x1b\x1b", 65533, 65533)
		wantSigns(t, ahead+"\x1b\x1b\x1b", 65533, 65533, 65533)
		wantSigns(t, ahead+"\x1b\x1b1\xe9", 65533, 233)
		wantSigns(t, ahead+"\x1b\x1b\x1b0\xe9", 65533, 65533, 65533)
		wantSigns(t, ahead+"\x1b3", 65533, 51)
		wantSigns(t, ahead+"\x1b/", 65533, 47)
		wantSigns(t, ahead+"\x1b9", 65533, 57)
		wantSigns(t, ahead+"\x1ba", 65533, 97)
		wantSigns(t, ahead+"\x1b\x00", 65533, 0)
		wantSigns(t, ahead+"\x1b\x011", 65533, 1, 49)
		high := []int64{65533, 176, 65533}[set]
		wantSigns(t, ahead+"\x1b\xb0", 65533, high)
		for part := range 256 {
			name := ahead + "\x1b" + string([]byte{byte(part)})
			if got := impl.Signs(name); !slices.Equal(got, plainSigns(name)) || (len(got) == 0) != (part >= 48 && part <= 50) {
				t.Errorf("%q: %v", name, got)
			}
		}
	}
}

func TestFormsOfSigns(t *testing.T) {
	edge := []struct {
		form string
		sign int64
	}{
		{"\x00", 0}, {"\x7f", 127}, {"\xc2\x80", 128}, {"\xdf\xbf", 2047}, {"\xe0\xa0\x80", 2048}, {"\xed\x9f\xbf", 55295},
		{"\xee\x80\x80", 57344}, {"\xef\xbf\xbd", 65533}, {"\xef\xbf\xbf", 65535}, {"\xf0\x90\x80\x80", 65536}, {"\xf4\x8f\xbf\xbf", 1114111},
	}
	for _, c := range edge {
		wantSigns(t, "\x1b2"+c.form, c.sign)
		wantSigns(t, "\x1b2a"+c.form+c.form+"b", 97, c.sign, c.sign, 98)
		// Cut short: each byte for itself.
		for n := 1; n < len(c.form); n++ {
			nones := slices.Repeat([]int64{65533}, n)
			wantSigns(t, "\x1b2"+c.form[:n], nones...)
			wantSigns(t, "\x1b2"+c.form[:n]+"a", append(slices.Clone(nones), 97)...)
			wantSigns(t, "\x1b2"+c.form[:n]+"\x1b0b", append(slices.Clone(nones), 98)...)
			wantSigns(t, "\x1b2"+c.form[:n]+"\x1b2"+c.form, append(slices.Clone(nones), c.sign)...)
			wantSigns(t, "\x1b2"+c.form[:n]+c.form, append(slices.Clone(nones), c.sign)...)
			// A switch within a form breaks it, and what is behind it is none of set 2 either.
			wantSigns(t, "\x1b2"+c.form[:n]+"\x1b2"+c.form[n:], slices.Repeat([]int64{65533}, len(c.form))...)
			wantSigns(t, "\x1b2"+c.form[:n]+"\x1b"+c.form[n:], slices.Repeat([]int64{65533}, len(c.form)+1)...)
		}
		for n := 1; n < len(c.form); n++ {
			wantSigns(t, "\x1b2"+c.form[n:], slices.Repeat([]int64{65533}, len(c.form)-n)...)
		}
	}
	// Forms longer than the shortest, half signs, signs past the last one, bytes that begin nothing.
	for _, none := range []string{"\xc0\x80", "\xc1\xbf", "\xe0\x80\x80", "\xe0\x9f\xbf", "\xf0\x80\x80\x80", "\xf0\x8f\xbf\xbf", "\xed\xa0\x80", "\xed\xbf\xbf", "\xed\xa0\x80\xed\xb0\x80", "\xf4\x90\x80\x80", "\xf5\x80\x80\x80", "\xf7\xbf\xbf\xbf", "\xf8\x88\x80\x80\x80", "\xfc\x84\x80\x80\x80\x80", "\xfe", "\xff", "\x80", "\xbf", "\xc0\x9b"} {
		wantSigns(t, "\x1b2"+none, slices.Repeat([]int64{65533}, len(none))...)
	}
}

// TestEverySign goes through all numbers of set 2, there and back.
func TestEverySign(t *testing.T) {
	for sign := int64(0); sign <= 1114112; sign++ {
		name := impl.NameOf([]int64{sign})
		if !isTellable(sign) {
			if name != "" {
				t.Fatal(sign, name)
			}
			continue
		}
		want := formOfSign(sign)
		if sign > 127 {
			want = "\x1b2" + want
		}
		if got := impl.Signs(want); name != want || len(got) != 1 || got[0] != sign {
			t.Fatal(sign, name, got)
		}
	}
}

// TestFormsOfEveryBeginning has all pairs of bytes in set 2, and what may stand behind them.
func TestFormsOfEveryBeginning(t *testing.T) {
	tails := []string{"", "a", "\x80", "\xbf", "\xc0", "\x80\x80", "\x80\xbf", "\xbf\x7f", "\x80\x80\x80", "\x1b0\x80"}
	for first := range 256 {
		for second := range 256 {
			for _, tail := range tails {
				name := "\x1b2" + string([]byte{byte(first), byte(second)}) + tail
				if got, want := impl.Signs(name), plainSigns(name); !slices.Equal(got, want) {
					t.Fatalf("%q: %v, want %v", name, got, want)
				}
			}
		}
	}
}

// TestShortNames has all names of four bytes out of those that matter, in each set.
func TestShortNames(t *testing.T) {
	letters := "\x1b0123a\x00\x7f\x80\x8f\x9f\xa0\xbf\xc1\xc3\xe0\xed\xf0\xf4\xff"
	for _, ahead := range []string{"", "\x1b1", "\x1b2"} {
		for _, k := range listsOf(4, 0, int64(len(letters)-1)) {
			name := ahead + string([]byte{letters[k[0]], letters[k[1]], letters[k[2]], letters[k[3]]})
			if got, want := impl.Signs(name), plainSigns(name); !slices.Equal(got, want) {
				t.Fatalf("%q: %v, want %v", name, got, want)
			}
		}
	}
}

func TestLongNames(t *testing.T) {
	m := mixer(215)
	for _, part := range []string{"a", "\x80", "\x1b", "\x1b1", "\x1b2\xc3\xa9", "\xf4\x8f\xbf\xbf"} {
		for _, ahead := range []string{"", "\x1b1", "\x1b2"} {
			whole := ahead + strings.Repeat(part, 4100)
			for _, n := range []int{4094, 4095, 4096, 4097, 4098, 4100} {
				name := whole[:n]
				got := impl.Signs(name)
				if !slices.Equal(got, plainSigns(name)) || n > 4096 && len(got) > 0 {
					t.Errorf("%d of %q: %s", n, part, brief(got))
				}
			}
		}
	}
	wantNumber(t, "signs", int64(len(impl.Signs(strings.Repeat("a", 4096)))), 4096)
	wantNumber(t, "signs", int64(len(impl.Signs(strings.Repeat("a", 4097)))), 0)
	for range 300 {
		var name []byte
		for range m.pick(0, 300) {
			name = append(name, []byte{27, '0', '1', '2', 'x', 0xc3, 0xa9, 0xe2, 0x82, 0xac, byte(m.next())}[m.pick(0, 10)])
		}
		wantLists(t, string(name), impl.Signs(string(name)), plainSigns(string(name)))
	}
}

func wantName(t *testing.T, signs []int64, want string) {
	t.Helper()
	if got := impl.NameOf(signs); got != want {
		t.Errorf("%s: %.40q, want %.40q", brief(signs), got, want)
	}
	if own := plainName(signs); own != want {
		t.Errorf("%s: the test's own reckoning tells %.40q", brief(signs), own)
	}
}

func TestNamesOfSigns(t *testing.T) {
	wantName(t, nil, "")
	wantName(t, []int64{}, "")
	wantName(t, []int64{0}, "\x00")
	wantName(t, []int64{97, 48, 127, 26, 28}, "a0\x7f\x1a\x1c")
	wantName(t, []int64{128}, "\x1b2\xc2\x80")
	wantName(t, []int64{255}, "\x1b2\xc3\xbf")
	// Set 2 is named once, where it is first wanted.
	wantName(t, []int64{97, 128, 98, 255, 255, 99}, "a\x1b2\xc2\x80b\xc3\xbf\xc3\xbfc")
	wantName(t, []int64{8364, 97, 8364}, "\x1b2\xe2\x82\xaca\xe2\x82\xac")
	wantName(t, []int64{55295, 57344, 65533, 65536, 1114111}, "\x1b2\xed\x9f\xbf\xee\x80\x80\xef\xbf\xbd\xf0\x90\x80\x80\xf4\x8f\xbf\xbf")
	for _, none := range []int64{27, 55296, 55297, 56320, 57342, 57343, 1114112, 1114113, -1, -97, -8364, leastInt, mostInt, 1 << 32, 1<<32 + 97, 1<<32 + 8364, -1<<32 + 97, 1 << 31, 1<<31 + 97, 1<<8 - 1<<32} {
		wantName(t, []int64{none}, "")
		wantName(t, []int64{97, none}, "")
		wantName(t, []int64{none, 97}, "")
		wantName(t, []int64{8364, none, 8364}, "")
	}
	for sign := int64(-2); sign < 260; sign++ {
		wantName(t, []int64{sign, 65}, plainName([]int64{sign, 65}))
		wantName(t, []int64{233, sign}, plainName([]int64{233, sign}))
	}
}

func TestLongNamesOfSigns(t *testing.T) {
	repeated := func(sign int64, n int) []int64 { return slices.Repeat([]int64{sign}, n) }
	wantName(t, repeated(97, 4095), strings.Repeat("a", 4095))
	wantName(t, repeated(97, 4096), strings.Repeat("a", 4096))
	wantName(t, repeated(97, 4097), "")
	// The two bytes that name set 2 count.
	wantName(t, repeated(233, 2047), "\x1b2"+strings.Repeat("\xc3\xa9", 2047))
	wantName(t, repeated(233, 2048), "")
	wantName(t, append(repeated(233, 2047), 97), "")
	wantName(t, append([]int64{97}, repeated(233, 2047)...), "")
	wantName(t, append(repeated(233, 2046), 97, 97), "\x1b2"+strings.Repeat("\xc3\xa9", 2046)+"aa")
	wantName(t, append(repeated(233, 2046), 97, 97, 97), "")
	wantName(t, append(repeated(97, 4092), 233), strings.Repeat("a", 4092)+"\x1b2\xc3\xa9")
	wantName(t, append(repeated(97, 4093), 233), "")
	wantName(t, append(repeated(8364, 1364), 233), "\x1b2"+strings.Repeat("\xe2\x82\xac", 1364)+"\xc3\xa9")
	wantName(t, append(repeated(8364, 1364), 8364), "")
	wantName(t, append(repeated(65536, 1023), 97, 97), "\x1b2"+strings.Repeat("\xf0\x90\x80\x80", 1023)+"aa")
	wantName(t, repeated(65536, 1024), "")
	wantName(t, repeated(65536, 4096), "")
	wantName(t, repeated(65536, 4097), "")
	for _, n := range []int{4096, 4097, 1 << 20} {
		wantName(t, repeated(27, n), "")
	}
}

// TestNamesHaveTheirSigns is the promise.
func TestNamesHaveTheirSigns(t *testing.T) {
	m := mixer(216)
	edge := []int64{0, 1, 26, 28, 48, 49, 50, 51, 126, 127, 128, 159, 255, 256, 2047, 2048, 55295, 57344, 65533, 65535, 65536, 1114111}
	for range 20000 {
		signs := make([]int64, m.pick(1, 12))
		for k := range signs {
			signs[k] = edge[m.pick(0, int64(len(edge)-1))]
			if m.pick(0, 3) == 0 {
				signs[k] = m.pick(57344, 1114111)
			}
		}
		name := impl.NameOf(signs)
		if name != plainName(signs) || !slices.Equal(impl.Signs(name), signs) {
			t.Fatalf("%v: %q, %v", signs, name, impl.Signs(name))
		}
	}
	full := slices.Concat(slices.Repeat([]int64{97}, 4092), []int64{233})
	wantLists(t, "a full name", impl.Signs(impl.NameOf(full)), full)
}
