package tests

import (
	"bytes"
	"slices"
	"strings"
	"testing"

	"loop.example/g00050/impl"
)

func wantFile(t *testing.T, what any, got, want []byte) {
	t.Helper()
	if !bytes.Equal(got, want) {
		t.Errorf("%v: %d bytes %x, want %d bytes %x", what, len(got), got[:min(len(got), 200)], len(want), want[:min(len(want), 200)])
	}
}

func TestSumByHand(t *testing.T) {
	// L N T H and form 0: 76, 78, 84, 72, 0. The first number goes 77, 155, 239, 311, 311; the second 77, 232, 471, 782, 1093.
	wantFile(t, "no element", impl.WriteFile(nil, 0), []byte("LNTH\x00\x37\x01\x45\x04"))
	// With form 1: 312 and 1094; 2: 313 and 1095; 3: 314 and 1096.
	wantFile(t, "no element", impl.WriteFile(nil, 1), []byte("LNTH\x01\x38\x01\x46\x04"))
	wantFile(t, "no element", impl.WriteFile([]impl.Elem{}, 2), []byte("LNTH\x02\x39\x01\x47\x04"))
	wantFile(t, "no element", impl.WriteFile(nil, 3), []byte("LNTH\x03\x3a\x01\x48\x04"))
	// One text "a" of tag 0, 0 behind form 0: four bytes 0, then 1, 0, 0, 0, 97.
	// The first stays 311 four times (the second goes 1404, 1715, 2026, 2337), then 312 four times (2649, 2961, 3273, 3585), then 409 (3994).
	wantFile(t, "one text", impl.WriteFile(textAt(0, 0, "a"), 0), []byte("LNTH\x00\x00\x00\x00\x00\x01\x00\x00\x00a\x99\x01\x9a\x0f"))
}

// The sum is taken modulo 65521, and not modulo a power of two.
func TestSumGoesRound(t *testing.T) {
	for _, n := range []int{250, 255, 256, 257, 258, 300, 1000, 4095, 4096} {
		for _, letter := range []string{"\xff", "\x00", "\x80", "z"} {
			list := textAt(0, 0, strings.Repeat(letter, n))
			wantFile(t, n, impl.WriteFile(list, 0), plainFile(list, 0))
		}
	}
	// 257 bytes of 255 are 65535: a first number of 14 and more than 65521.
	list := bytesAt(0, 4, strings.Repeat("\xff", 257))
	file := impl.WriteFile(list, 0)
	first := int64(1 + 76 + 78 + 84 + 72 + 0 + 4 + 1 + 1 + 65535 - 65521)
	wantNumber(t, "the first number", int64(file[len(file)-4])+256*int64(file[len(file)-3]), first)
}

func TestBytesOfEachKind(t *testing.T) {
	cases := []struct {
		what string
		list []impl.Elem
		kind string
		tag  string
		rest string
	}{
		{"a text", textAt(2, 5, "hi"), "\x01", "\x02\x00\x05\x00", "\x02\x00\x00\x00hi"},
		{"an empty text", textAt(0x1234, 0xaa, ""), "\x01", "\x34\x12\xaa\x00", "\x00\x00\x00\x00"},
		{"a text of any bytes", textAt(0, 0, "\x00\xff\x1b"), "\x01", "\x00\x00\x00\x00", "\x03\x00\x00\x00\x00\xff\x1b"},
		{"bytes", bytesAt(0x0103, 0xfffe, "ab"), "\x02", "\x03\x01\xfe\xff", "\x02\x00\x00\x00ab"},
		{"no bytes", bytesAt(65534, 65534, ""), "\x02", "\xfe\xff\xfe\xff", "\x00\x00\x00\x00"},
		{"wholes", wholesAt(2, 1, 1, -1, -2147483648, 2147483647, 0x01020304, -2), "\x03", "\x02\x00\x01\x00", "\x18\x00\x00\x00\x01\x00\x00\x00\xff\xff\xff\xff\x00\x00\x00\x80\xff\xff\xff\x7f\x04\x03\x02\x01\xfe\xff\xff\xff"},
		{"no wholes", wholesAt(2, 6), "\x03", "\x02\x00\x06\x00", "\x00\x00\x00\x00"},
		{"reals", realsAt(2, 2, 1, -1, leastInt, mostInt, 0x0102030405060708), "\x04", "\x02\x00\x02\x00", "\x28\x00\x00\x00\x01\x00\x00\x00\x00\x00\x00\x00\xff\xff\xff\xff\xff\xff\xff\xff\x00\x00\x00\x00\x00\x00\x00\x80\xff\xff\xff\xff\xff\xff\xff\x7f\x08\x07\x06\x05\x04\x03\x02\x01"},
		{"no reals", realsAt(2, 7), "\x04", "\x02\x00\x07\x00", "\x00\x00\x00\x00"},
	}
	for _, c := range cases {
		for form := int64(0); form <= 3; form++ {
			body := c.tag + c.rest
			if form%2 == 1 {
				body = c.tag + c.kind + c.rest
			}
			wantFile(t, c.what, impl.WriteFile(c.list, form), sealed(byte(form), body))
		}
	}
	long := textAt(0, 0, strings.Repeat("x", 0x0234))
	wantFile(t, "a longer text", impl.WriteFile(long, 0), sealed(0, "\x00\x00\x00\x00\x34\x02\x00\x00"+long[0].Text))
}

func TestBytesOfSequences(t *testing.T) {
	const item, itemEnd, seqEnd, open = "\xff\xff\x01\x00", "\xff\xff\x02\x00\x00\x00\x00\x00", "\xff\xff\x03\x00\x00\x00\x00\x00", "\xff\xff\xff\xff"
	empty := seqAt(2, 3)
	wantFile(t, "none", impl.WriteFile(empty, 0), sealed(0, "\x02\x00\x03\x00\x00\x00\x00\x00"))
	wantFile(t, "none", impl.WriteFile(empty, 1), sealed(1, "\x02\x00\x03\x00\x05\x00\x00\x00\x00"))
	wantFile(t, "none", impl.WriteFile(empty, 2), sealed(2, "\x02\x00\x03\x00"+open+seqEnd))
	wantFile(t, "none", impl.WriteFile(empty, 3), sealed(3, "\x02\x00\x03\x00\x05"+open+seqEnd))
	one := seqAt(2, 3, itemOf())
	wantFile(t, "one", impl.WriteFile(one, 0), sealed(0, "\x02\x00\x03\x00\x08\x00\x00\x00"+item+"\x00\x00\x00\x00"))
	wantFile(t, "one", impl.WriteFile(one, 1), sealed(1, "\x02\x00\x03\x00\x05\x08\x00\x00\x00"+item+"\x00\x00\x00\x00"))
	wantFile(t, "one", impl.WriteFile(one, 2), sealed(2, "\x02\x00\x03\x00"+open+item+open+itemEnd+seqEnd))
	wantFile(t, "one", impl.WriteFile(one, 3), sealed(3, "\x02\x00\x03\x00\x05"+open+item+open+itemEnd+seqEnd))
	deep := elemsOf(seqAt(2, 3, itemOf(textAt(2, 0, "a"), seqAt(2, 8, itemOf(wholesAt(4, 1, -2)), itemOf())), itemOf(bytesAt(1, 0, ""))), textAt(4, 0, "z"))
	// Form 0: the whole is 4 + 8 bytes, its item 8 + 12; the inner sequence has 20 + 8, so 36 with its head; the outer item 9 + 36; the other one 8.
	wantFile(t, "deep", impl.WriteFile(deep, 0), sealed(0, "\x02\x00\x03\x00\x45\x00\x00\x00"+
		item+"\x2d\x00\x00\x00"+"\x02\x00\x00\x00\x01\x00\x00\x00a"+"\x02\x00\x08\x00\x1c\x00\x00\x00"+
		item+"\x0c\x00\x00\x00"+"\x04\x00\x01\x00\x04\x00\x00\x00\xfe\xff\xff\xff"+item+"\x00\x00\x00\x00"+
		item+"\x08\x00\x00\x00"+"\x01\x00\x00\x00\x00\x00\x00\x00"+
		"\x04\x00\x00\x00\x01\x00\x00\x00z"))
	wantFile(t, "deep", impl.WriteFile(deep, 1), sealed(1, "\x02\x00\x03\x00\x05\x49\x00\x00\x00"+
		item+"\x30\x00\x00\x00"+"\x02\x00\x00\x00\x01\x01\x00\x00\x00a"+"\x02\x00\x08\x00\x05\x1d\x00\x00\x00"+
		item+"\x0d\x00\x00\x00"+"\x04\x00\x01\x00\x03\x04\x00\x00\x00\xfe\xff\xff\xff"+item+"\x00\x00\x00\x00"+
		item+"\x09\x00\x00\x00"+"\x01\x00\x00\x00\x02\x00\x00\x00\x00"+
		"\x04\x00\x00\x00\x01\x01\x00\x00\x00z"))
	wantFile(t, "deep", impl.WriteFile(deep, 2), sealed(2, "\x02\x00\x03\x00"+open+
		item+open+"\x02\x00\x00\x00\x01\x00\x00\x00a"+"\x02\x00\x08\x00"+open+
		item+open+"\x04\x00\x01\x00\x04\x00\x00\x00\xfe\xff\xff\xff"+itemEnd+item+open+itemEnd+seqEnd+itemEnd+
		item+open+"\x01\x00\x00\x00\x00\x00\x00\x00"+itemEnd+seqEnd+
		"\x04\x00\x00\x00\x01\x00\x00\x00z"))
	wantFile(t, "deep", impl.WriteFile(deep, 3), sealed(3, "\x02\x00\x03\x00\x05"+open+
		item+open+"\x02\x00\x00\x00\x01\x01\x00\x00\x00a"+"\x02\x00\x08\x00\x05"+open+
		item+open+"\x04\x00\x01\x00\x03\x04\x00\x00\x00\xfe\xff\xff\xff"+itemEnd+item+open+itemEnd+seqEnd+itemEnd+
		item+open+"\x01\x00\x00\x00\x02\x00\x00\x00\x00"+itemEnd+seqEnd+
		"\x04\x00\x00\x00\x01\x01\x00\x00\x00z"))
}

func TestWrittenLists(t *testing.T) {
	m := mixer(211)
	for k := range 600 {
		list := m.tree(m.pick(0, 5), 8, k%2 == 0)
		for form := int64(-1); form <= 4; form++ {
			wantFile(t, briefElems(list), impl.WriteFile(list, form), plainFile(list, form))
		}
	}
	for form := int64(0); form <= 3; form++ {
		wantFile(t, "rich", impl.WriteFile(richList(), form), plainFile(richList(), form))
	}
}

func TestFormsAreFour(t *testing.T) {
	for _, form := range []int64{leastInt, leastInt + 1, leastInt + 3, -5, -4, -3, -2, -1, 0, 1, 2, 3, 4, 5, 6, 7, 8, 255, 256, 257, 1 << 32, 1<<32 + 1, mostInt} {
		for _, list := range [][]impl.Elem{nil, textAt(0, 0, "a"), seqAt(0, 3, itemOf())} {
			file := impl.WriteFile(list, form)
			if (len(file) > 0) != liesFrom(form, 0, 3) {
				t.Error(form, len(file))
			}
		}
	}
}

func TestKindsAreToldOrKnown(t *testing.T) {
	for kind := int64(1); kind <= 5; kind++ {
		for num := int64(0); num < 10; num++ {
			for _, group := range []int64{0, 1, 16, 17, 65533, 65534} {
				e := impl.Elem{Group: group, Num: num, Kind: kind}
				for place, list := range [][]impl.Elem{{e}, itemsAround(e), elemsOf(textAt(0, 0, ""), seqAt(2, 3, itemOf(), itemOf(textAt(0, 0, ""), seqAt(0, 8, itemOf([]impl.Elem{e})))))} {
					if !impl.ElemsOk(list) {
						continue
					}
					for form := int64(0); form <= 3; form++ {
						got := len(impl.WriteFile(list, form)) > 0
						if want := form%2 == 1 || kind == plainKind(group, num); got != want {
							t.Error(place, form, e, got)
						}
					}
				}
			}
		}
	}
}

func TestWrongListsAreNotWritten(t *testing.T) {
	for _, list := range wrongLists() {
		for form := int64(-1); form <= 4; form++ {
			if file := impl.WriteFile(list, form); len(file) > 0 {
				t.Error(form, briefElems(list), len(file))
			}
		}
	}
}

// wrongLists are wrong by one thing each, and by the dictionary else.
func wrongLists() [][]impl.Elem {
	cut := richList()
	cut[3].Size++
	return [][]impl.Elem{
		{{}},
		{{Group: 2, Kind: 6}},
		{{Group: 2, Kind: 7}},
		textAt(65535, 0, ""),
		textAt(2, -5, ""),
		textAt(2, 65540, ""),
		textAt(-2, 5, ""),
		textAt(0, 0, strings.Repeat("a", 4097)),
		wholesAt(2, 1, 1<<31),
		wholesAt(2, 1, -1<<31-1),
		realsAt(2, 2, make([]int64, 4097)...),
		elemsOf(textAt(2, 0, ""), textAt(2, 0, "")),
		elemsOf(textAt(2, 5, ""), textAt(2, 0, "")),
		itemOf(),
		seqAt(2, 3, textAt(2, 5, "")),
		seqAt(2, 3, itemOf(textAt(2, 5, ""), textAt(2, 0, ""))),
		nestOf(9),
		{{Group: 2, Kind: 1, Size: 1}, {Group: 4, Kind: 1}},
		{{Group: 2, Num: 3, Kind: 5, Size: -1}},
		{{Group: 2, Num: 3, Kind: 5, Size: mostInt}},
		{{Group: 2, Num: 3, Kind: 5, Nums: []int64{1}}},
		{{Group: 2, Num: 1, Kind: 3, Text: "a"}},
		seqAt(2, 3, slices.Repeat([][]impl.Elem{itemOf()}, 2000)...),
		cut,
	}
}

// listOfLength has a file of so many bytes in a form, and every kind.
func listOfLength(length int, form int64) []impl.Elem {
	list := elemsOf(seqAt(0, 3, itemOf(bytesAt(1, 1, "x")), itemOf()), wholesAt(0, 6, 7, -7))
	left := length - len(plainBody(list, form)) - 9
	add := func(e []impl.Elem) { list, left = append(list, e...), left-len(plainBody(e, form)) }
	for num := int64(2); left > 40000; num += 5 {
		add(realsAt(2, num, make([]int64, 4096)...))
	}
	for num := int64(0); left > 4096; num += 5 {
		add(textAt(4, num, strings.Repeat("y", 4000)))
	}
	add(textAt(6, 0, strings.Repeat("u", left-len(plainBody(textAt(6, 0, ""), form)))))
	return list
}

func TestFilesHaveTheirLimit(t *testing.T) {
	for form := int64(0); form <= 3; form++ {
		for _, length := range []int{1048574, 1048575, 1048576, 1048577, 1048578} {
			list := listOfLength(length, form)
			wantRight(t, length, list, true)
			wantNumber(t, "its length", int64(len(plainBody(list, form))+9), int64(length))
			file := impl.WriteFile(list, form)
			wantFile(t, length, file, plainFile(list, form))
			if (len(file) > 0) != (length <= 1048576) {
				t.Error(form, length, len(file))
			}
		}
	}
	// The longest lists are far above it.
	most, nums := []impl.Elem{}, make([]int64, 4096)
	for k := range int64(2000) {
		most = append(most, realsAt(2, 2+5*k, nums...)...)
	}
	wantRight(t, "the longest", most, true)
	wantFile(t, "the longest", impl.WriteFile(most, 0), nil)
}
